/-
  Texts of the proof, several in one: DequeAcc.
-/
import Derived.Test.YtgbclfhgpkmcnaaGreatDoorPack4
import Derived.Deep.RegionHeld3
import Derived.Deep.QuietTactic
import Derived.BigQuiet
/-
  The small functions of package deque: accesses (load, store, swap), where things lie (slot, cell, held, stacked), none, end.
-/
namespace Go.Proofs.YtgbclfhgpkmcnaaGreatDoor
open Go.RowKit

theorem Dq.drew {w : World} {d p q : Nat} {C : Cfg} {l : List Int} {s : Int} (h : Dq w d p q C l s) : Dq w.drew d p q C l s := h.turned (Turned.refl [] w).drew (by simp) (by simp) (by simp)
theorem Dq.drewN {w : World} {d p q : Nat} {C : Cfg} {l : List Int} {s : Int} (h : Dq w d p q C l s) (m : Nat) : Dq (w.drewN m) d p q C l s := h.turned ((Turned.refl [] w).drewN m) (by simp) (by simp) (by simp)
theorem OpB.drew {w : World} {b d : Nat} {o : OpS} (h : OpB w b d o) : OpB w.drew b d o := h.turned (Turned.refl [] w).drew (by simp)
theorem OpB.drewN {w : World} {b d : Nat} {o : OpS} (h : OpB w b d o) (m : Nat) : OpB (w.drewN m) b d o := h.turned ((Turned.refl [] w).drewN m) (by simp)

theorem w64 (n : Int) (h : -9223372036854775808 ≤ n ∧ n ≤ 9223372036854775807) : wrap64 n = n := by unfold wrap64; omega

theorem eql_func (fn : Fn) (first caps : Array Value) (w : World) : (binOp .eql 168 (.func fn first caps) .nilFunc).run Tryz.prog w = .ok (.bool false) w := by kernel_rfl

section
variable (w : World) (d p q b : Nat) (C : Cfg) (l : List Int) (s : Int)

theorem dload_any (k : Nat) (hk : k < 4 + C.cap + C.over) (h : Dq w d p q C l s) :
    Calls Tryz.prog 108 #[.pointer (some ⟨d, 0, none⟩), .int .i64 k] w fun e w' => e = .returned (.int .i64 (rd C l k)) ∧ Dq w' d p q C l (wrap64 (s + 1)) ∧ Turned [p, q] w w' := by
  have h0 := h.c0
  have h1 := h.c1
  have HH := hide h
  have hb : C.base + k < 65536 := by have := h.room; have := h.most; omega
  have HL : Hid (∀ w', Mem w' p q l s → Calls Tryz.prog 116 #[.pointer (some ⟨p, 0, none⟩), .int .i64 (IntKind.i64.wrap ((C.base : Int) + k))] w' fun e w2 => e = .returned (.tuple #[.int .i64 (rd C l k), .int .i64 0]) ∧ Mem w2 p q l (wrap64 (s + 1)) ∧ Turned [p, q] w' w2) := fun w' m => by
    rw [show IntKind.i64.wrap ((C.base : Int) + k) = ((C.base + k : Nat) : Int) by rw [IntKind.wrap_i64]; omega]
    exact load_in p q l s w' (C.base + k) (rd C l k) (h.at hk) m
  generalize rd C l k = x at *
  clear h hk
  go_enter Tryz.func108, Tryz.ntmps108
  go_wp2_with fail
  go_region_held3 (fun w' => w'.cell? ⟨d, 0, none⟩ = some (.pointer (some ⟨p, 0, none⟩)) ∧ w'.cell? ⟨d, 1, none⟩ = some (.int .i64 C.base)) (go_keep)
    (first
      | (go_at_call 116; refine (HL.out _ HH.out.mem.drew).mono ?_; rintro e w1 ⟨rfl, m1, t1⟩; have g1 := HH.out.drew.acc m1 rfl t1; have g2 := g1.c0; have g3 := g1.c1; have HG := hide g1; have HT := hide ((Turned.refl [p, q] w).drew.trans t1); clear HL m1 t1 g1))
  go_wp2_with fail
  go_ret
  exact ⟨rfl, HG.out, HT.out⟩

theorem dstore_any (k : Nat) (v : Int) (hk : k < 4 + C.cap + C.over) (h : Dq w d p q C l s) :
    Calls Tryz.prog 118 #[.pointer (some ⟨d, 0, none⟩), .int .i64 k, .int .i64 v] w fun e w' => e = .returned (.tuple #[]) ∧ Dq w' d p q C (wr C l k v) (wrap64 (s + 1)) ∧ Turned [p, q] w w' := by
  have h0 := h.c0
  have h1 := h.c1
  have HH := hide h
  have hb : C.base + k < 65536 := by have := h.room; have := h.most; omega
  have HL : Hid (∀ w', Mem w' p q l s → Calls Tryz.prog 130 #[.pointer (some ⟨p, 0, none⟩), .int .i64 (IntKind.i64.wrap ((C.base : Int) + k)), .int .i64 v] w' fun e w2 => e = .returned (.int .i64 0) ∧ Mem w2 p q (wr C l k v) (wrap64 (s + 1)) ∧ Turned [p, q] w' w2) := fun w' m => by
    rw [show IntKind.i64.wrap ((C.base : Int) + k) = ((C.base + k : Nat) : Int) by rw [IntKind.wrap_i64]; omega]
    exact store_in p q l s w' (C.base + k) (rd C l k) v (h.at hk) m
  clear h hk
  go_enter Tryz.func118, Tryz.ntmps118
  go_wp2_with fail
  go_region_held3 (fun w' => w'.cell? ⟨d, 0, none⟩ = some (.pointer (some ⟨p, 0, none⟩)) ∧ w'.cell? ⟨d, 1, none⟩ = some (.int .i64 C.base)) (go_keep)
    (first
      | (go_at_call 130; refine (HL.out _ HH.out.mem.drew).mono ?_; rintro e w1 ⟨rfl, m1, t1⟩; have g1 := HH.out.drew.acc m1 (wr_length _ _ _ _) t1; have g2 := g1.c0; have g3 := g1.c1; have HG := hide g1; have HT := hide ((Turned.refl [p, q] w).drew.trans t1); clear HL m1 t1 g1))
  go_wp2_with fail
  refine bodyPost_end (results_none rfl _ _ _) rfl ?_
  exact ⟨rfl, HG.out, HT.out⟩

/-- What a swap tells, and what the cells are then. -/
theorem dswap_any (k : Nat) (x v : Int) (hk : k < 4 + C.cap + C.over) (h : Dq w d p q C l s) :
    Calls Tryz.prog 134 #[.pointer (some ⟨d, 0, none⟩), .int .i64 k, .int .i64 x, .int .i64 v] w fun e w' => e = .returned (.bool (decide (rd C l k = x))) ∧ Dq w' d p q C (if rd C l k = x then wr C l k v else l) (wrap64 (s + 1)) ∧ Turned [p, q] w w' := by
  have h0 := h.c0
  have h1 := h.c1
  have HH := hide h
  have hb : C.base + k < 65536 := by have := h.room; have := h.most; omega
  have HL : Hid (∀ w', Mem w' p q l s → Calls Tryz.prog 146 #[.pointer (some ⟨p, 0, none⟩), .int .i64 (IntKind.i64.wrap ((C.base : Int) + k)), .int .i64 x, .int .i64 v] w' fun e w2 => e = .returned (.tuple #[.bool (decide (rd C l k = x)), .int .i64 0]) ∧ Mem w2 p q (if rd C l k = x then wr C l k v else l) (wrap64 (s + 1)) ∧ Turned [p, q] w' w2) := fun w' m => by
    rw [show IntKind.i64.wrap ((C.base : Int) + k) = ((C.base + k : Nat) : Int) by rw [IntKind.wrap_i64]; omega]
    by_cases hx : rd C l k = x
    · subst hx
      simp only [decide_true, if_true]
      exact swap_hit p q l s w' (C.base + k) (rd C l k) v (h.at hk) m
    · rw [decide_eq_false hx, if_neg hx]
      exact swap_miss p q l s w' (C.base + k) (rd C l k) x v (h.at hk) hx m
  have HN := hide (show (if rd C l k = x then wr C l k v else l).length = l.length by split <;> simp [wr_length])
  generalize (if rd C l k = x then wr C l k v else l) = l2 at *
  generalize decide (rd C l k = x) = bb at *
  clear h hk
  go_enter Tryz.func134, Tryz.ntmps134
  go_wp2_with fail
  go_region_held3 (fun w' => w'.cell? ⟨d, 0, none⟩ = some (.pointer (some ⟨p, 0, none⟩)) ∧ w'.cell? ⟨d, 1, none⟩ = some (.int .i64 C.base)) (go_keep)
    (first
      | (go_at_call 146; refine (HL.out _ HH.out.mem.drew).mono ?_; rintro e w1 ⟨rfl, m1, t1⟩; have g1 := HH.out.drew.acc m1 HN.out t1; have g2 := g1.c0; have g3 := g1.c1; have HG := hide g1; have HT := hide ((Turned.refl [p, q] w).drew.trans t1); clear HL m1 t1 g1))
  go_wp2_with fail
  go_ret
  exact ⟨rfl, HG.out, HT.out⟩

theorem slot_any (n : Int) (h : Dq w d p q C l s) :
    Calls Tryz.prog 136 #[.pointer (some ⟨d, 0, none⟩), .int .i64 n] w fun e w' => e = .returned (.int .i64 ((slotOf C n : Nat) : Int)) ∧ w' = w := by
  have h2 := h.c2
  have hc := h.cap
  have hz : ¬ ((C.cap : Int) = 0) := by omega
  have hm1 : ¬ ((C.cap : Int) = -1) := by omega
  have hb := Int.emod_nonneg n (b := (C.cap : Int)) hz
  have hb2 := Int.emod_lt_of_pos n (b := (C.cap : Int)) (by omega)
  have hs : ((slotOf C n : Nat) : Int) = 4 + n % (C.cap : Int) := by unfold slotOf; omega
  have ht : n.tmod (C.cap : Int) = n % (C.cap : Int) - (if n.tmod (C.cap : Int) < 0 then (C.cap : Int) else 0) := by
    have e := Int.tmod_eq_emod (a := n) (b := (C.cap : Int))
    split
    · rename_i hneg
      rw [e] at hneg ⊢
      split at hneg
      · omega
      · rename_i hd
        rw [if_neg hd]
        simp
    · rename_i hneg
      rw [e] at hneg ⊢
      split at hneg
      · rename_i hd
        simp [hd]
      · rename_i hd
        exfalso
        apply hneg
        have : (((C.cap : Int)).natAbs : Int) = C.cap := by omega
        omega
  have HS := hide hs
  have HT := hide ht
  have HB := hide (And.intro hb hb2)
  have HC := hide hc
  clear h hb hb2 hs ht hc
  go_enter Tryz.func136, Tryz.ntmps136
  go_wp2_with fail
  · go_ret
    have ht := HT.out
    have hb := HB.out
    have hc := HC.out
    rename_i hx
    refine ⟨?_, rfl⟩
    rw [HS.out]
    rw [if_pos hx] at ht
    generalize n.tmod (C.cap : Int) = y at *
    generalize n % (C.cap : Int) = z at *
    show Ending.returned (Value.int .i64 (wrap64 (4 + wrap64 (y + C.cap)))) = _
    rw [w64 (y + (C.cap : Int)) (by omega), w64 _ (by omega), show 4 + (y + (C.cap : Int)) = 4 + z by omega]
  · go_ret
    have ht := HT.out
    have hb := HB.out
    have hc := HC.out
    rename_i hx
    refine ⟨?_, rfl⟩
    rw [HS.out]
    rw [if_neg (by omega)] at ht
    generalize n.tmod (C.cap : Int) = y at *
    generalize n % (C.cap : Int) = z at *
    show Ending.returned (Value.int .i64 (wrap64 (4 + y))) = _
    rw [w64 _ (by omega), show y = z by omega]

theorem cell_any (n : Nat) (hn : n ≤ 4096) (h : Dq w d p q C l s) :
    Calls Tryz.prog 159 #[.pointer (some ⟨d, 0, none⟩), .int .i64 n] w fun e w' => e = .returned (.int .i64 ((4 + C.cap + n : Nat) : Int)) ∧ w' = w := by
  have h2 := h.c2
  have hc := h.cap
  clear h
  go_enter Tryz.func159, Tryz.ntmps159
  go_wp2_with fail
  go_ret
  refine ⟨?_, rfl⟩
  congr 2

theorem held_any (t b : Int) (ht : -4611686018427387904 ≤ t ∧ t ≤ 4611686018427387904) (hb : -4611686018427387904 ≤ b ∧ b ≤ 4611686018427387904) (h : Dq w d p q C l s) :
    Calls Tryz.prog 124 #[.pointer (some ⟨d, 0, none⟩), .int .i64 t, .int .i64 b] w fun e w' => e = .returned (.int .i64 (heldOf C t b)) ∧ w' = w := by
  have h2 := h.c2
  have hc := h.cap
  clear h
  have e1 : t < b → IntKind.u64.wrap (IntKind.u64.wrap b - IntKind.u64.wrap t) = b - t := fun hl => by
    rw [IntKind.wrap_u64, IntKind.wrap_u64, IntKind.wrap_u64]; omega
  have e2 : b ≤ t → heldOf C t b = 0 := fun hl => by unfold heldOf; rw [if_pos hl]
  have e3 : t < b → heldOf C t b = min (b - t) (C.cap : Int) := fun hl => by unfold heldOf; rw [if_neg (by omega)]
  have E1 := hide e1
  have E2 := hide e2
  have E3 := hide e3
  clear e1 e2 e3
  generalize heldOf C t b = y at *
  go_enter Tryz.func124, Tryz.ntmps124
  go_wp2_with fail
  · go_ret
    have e := E2.out (by assumption)
    subst e
    exact ⟨rfl, rfl⟩
  · rename_i h1
    have e1 := E1.out h1
    have e3 := E3.out h1
    rw [e1] at h
    have e : y = wrap64 (C.cap : Int) := by rw [w64 _ (by omega)]; omega
    subst e
    go_ret
    exact ⟨rfl, rfl⟩
  · rename_i h1
    have e1 := E1.out h1
    have e3 := E3.out h1
    have e : y = wrap64 (IntKind.u64.wrap (IntKind.u64.wrap b - IntKind.u64.wrap t)) := by rw [e1] at h ⊢; rw [w64 _ (by omega)]; omega
    subst e
    go_ret
    exact ⟨rfl, rfl⟩

theorem stacked_any (n : Int) (h : Dq w d p q C l s) :
    Calls Tryz.prog 147 #[.pointer (some ⟨d, 0, none⟩), .int .i64 n] w fun e w' => e = .returned (.int .i64 ((stackedOf C n : Nat) : Int)) ∧ w' = w := by
  have h3 := h.c3
  have hc := h.over
  clear h
  go_enter Tryz.func147, Tryz.ntmps147
  go_wp2_with fail
  all_goals (go_ret; exact ⟨by unfold stackedOf; simp [Ending.returned.injEq, Value.int.injEq]; omega, rfl⟩)

theorem dnone_any (h : Dq w d p q C l s) :
    Calls Tryz.prog 107 #[.pointer (some ⟨d, 0, none⟩)] w fun e w' => e = .returned (.bool false) ∧ w' = w := by
  have h2 := h.c2
  have hc := h.cap
  have hz : ¬ ((C.cap : Int) = 0) := by omega
  clear h
  go_enter Tryz.func107, Tryz.ntmps107
  go_wp2_with fail
  all_goals (go_ret; exact ⟨by simp; omega, rfl⟩)

theorem end_any (o : OpS) (n : Int) (ho : OpB w b d o) :
    Calls Tryz.prog 144 #[.pointer (some ⟨b, 0, none⟩), .int .i64 n] w fun e w' => e = .returned (.tuple #[]) ∧ OpB w' b d { o with done := true, errno := n } ∧ Turned [b] w w' := by
  have z := ho.fz
  have z1 := z 1
  have z6 := z 6
  have f1 := ho.f1
  have f6 := ho.f6
  have h1 := (ho.raw.set 1 (.bool true))
  have HR := hide ((h1.set 6 (.int .i64 n)).mk (d := d) (o := { o with done := true, errno := n }) rfl)
  have HT := hide (((Turned.refl [b] w).setCell (p := ⟨b, 1, none⟩) (by simp) (.bool true)).setCell (p := ⟨b, 6, none⟩) (by simp) (.int .i64 n))
  clear z h1 ho
  go_enter Tryz.func144, Tryz.ntmps144
  go_wp2_with fail
  refine bodyPost_end (results_none rfl _ _ _) rfl ?_
  exact ⟨rfl, HR.out, HT.out⟩

theorem onone_any (o : OpS) (ho : OpB w b d o) :
    Calls Tryz.prog 100 #[.pointer (some ⟨b, 0, none⟩)] w fun e w' => e = .returned (.bool false) ∧ w' = w := by
  have f0 := ho.f0
  have heq := eql_func (.func o.at_.fn) #[.pointer (some ⟨d, 0, none⟩)] #[]
  generalize o.at_.fn = K at *
  clear ho
  go_enter Tryz.func100, Tryz.ntmps100
  go_wp2_with fail
  all_goals (go_ret; exact ⟨rfl, rfl⟩)

theorem onone_nil :
    Calls Tryz.prog 100 #[.pointer none] w fun e w' => e = .returned (.bool true) ∧ w' = w := by
  go_enter Tryz.func100, Tryz.ntmps100
  go_wp2_with fail
  all_goals (go_ret; exact ⟨rfl, rfl⟩)

theorem done_any (o : OpS) (ho : OpB w b d o) :
    Calls Tryz.prog 99 #[.pointer (some ⟨b, 0, none⟩)] w fun e w' => e = .returned (.bool o.done) ∧ w' = w := by
  have f1 := ho.f1
  have H := hide (onone_any w d b o ho)
  generalize o.done = bb at *
  clear ho
  go_enter Tryz.func99, Tryz.ntmps99
  go_wp2_with fail
  refine H.out.mono ?_
  rintro e w1 ⟨rfl, rfl⟩
  go_wp2_with fail
  all_goals (go_ret; exact ⟨rfl, rfl⟩)

theorem done_nil :
    Calls Tryz.prog 99 #[.pointer none] w fun e w' => e = .returned (.bool true) ∧ w' = w := by
  have H := hide (onone_nil w)
  go_enter Tryz.func99, Tryz.ntmps99
  go_wp2_with fail
  refine H.out.mono ?_
  rintro e w1 ⟨rfl, rfl⟩
  go_wp2_with fail
  all_goals (go_ret; exact ⟨rfl, rfl⟩)

/-- What an operation tells. -/
def valOf (o : OpS) : Int × Int := if o.done then (if o.errno = 0 then (o.item, 0) else (0, o.errno)) else (0, 16)

theorem value_any (o : OpS) (ho : OpB w b d o) :
    Calls Tryz.prog 87 #[.pointer (some ⟨b, 0, none⟩)] w fun e w' => e = .returned (.tuple #[.int .i64 (valOf o).1, .int .i64 (valOf o).2]) ∧ ∃ m, w' = w.drewN m := by
  have f1 := ho.f1
  have f5 := ho.f5
  have f6 := ho.f6
  have H := hide (onone_any w d b o ho)
  by_cases hd : o.done = true
  · by_cases he : o.errno = 0
    · have hv : valOf o = (o.item, 0) := by simp [valOf, hd, he]
      rw [hv]
      rw [hd] at f1
      rw [he] at f6
      clear ho hv hd he
      go_enter Tryz.func87, Tryz.ntmps87
      go_wp2_with fail
      refine H.out.mono ?_
      rintro e w1 ⟨rfl, rfl⟩
      go_wp2_with fail
      all_goals (go_ret2; exact ⟨rfl, 0, rfl⟩)
    · have hv : valOf o = (0, o.errno) := by simp [valOf, hd, he]
      rw [hv]
      rw [hd] at f1
      generalize o.errno = n at *
      clear ho hv hd
      go_enter Tryz.func87, Tryz.ntmps87
      go_wp2_with fail
      refine H.out.mono ?_
      rintro e w1 ⟨rfl, rfl⟩
      go_wp2_with fail
      go_quiet (fail)
      go_wp2_with fail
      all_goals (go_ret2; exact ⟨rfl, _, rfl⟩)
  · have hd' : o.done = false := by simpa using hd
    have hv : valOf o = (0, 16) := by simp [valOf, hd']
    rw [hv]
    rw [hd'] at f1
    clear ho hv hd hd'
    go_enter Tryz.func87, Tryz.ntmps87
    go_wp2_with fail
    refine H.out.mono ?_
    rintro e w1 ⟨rfl, rfl⟩
    go_wp2_with fail
    all_goals (go_ret2; exact ⟨rfl, 0, rfl⟩)
end
end Go.Proofs.YtgbclfhgpkmcnaaGreatDoor

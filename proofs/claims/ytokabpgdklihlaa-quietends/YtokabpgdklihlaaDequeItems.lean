/-
  Items of package deque: words, slices.Grow, slices.Concat.
-/
import Derived.Test.YtokabpgdklihlaaDequeAcc
import Derived.Lib.AppendZeros
import Derived.Laws.AppendOwnNone
import Derived.Deep.Cut
import Derived.Deep.CutBlock
import Derived.Deep.CutRange
import Derived.Deep.DeepCutAuto
import Derived.Deep.LoopGhost
namespace Go.Proofs.Ytokabpgdklihlaa
open Go.RowKit

/-- Words of n cells. -/
def seg (C : Cfg) (l : List Int) (k n : Nat) : List Int := (l.take (C.base + k + n)).drop (C.base + k)

set_option maxRecDepth 4000 in
theorem dwords_any (w : World) (d p q : Nat) (C : Cfg) (l : List Int) (s : Int) (k n : Nat) (hk : k + n ≤ 4 + C.cap + C.over) (h : Dq w d p q C l s) :
    Calls Try.prog 35 #[.pointer (some ⟨d, 0, none⟩), .int .i64 k, .int .i64 n] w fun e w' => ∃ v, e = .returned v ∧ w'.ownsRow w.heap.size 2 1 v (seg C l k n).length ((seg C l k n).map (Value.int .i64)) ∧ Turned [] w w' := by
  have h0 := h.c0
  have h1 := h.c1
  have hb : C.base + k + n ≤ l.length := by have := h.room; omega
  have hm := h.most
  have HL : Hid (Calls Try.prog 41 #[.pointer (some ⟨p, 0, none⟩), .int .i64 (IntKind.i64.wrap ((C.base : Int) + k)), .int .i64 (IntKind.i64.wrap (IntKind.i64.wrap ((C.base : Int) + k) + n))] w.drew fun e w2 => ∃ v, e = .returned v ∧ w2.ownsRow w.drew.heap.size 2 1 v (seg C l k n).length ((seg C l k n).map (Value.int .i64)) ∧ Turned [] w.drew w2) := by
    have e1 : IntKind.i64.wrap ((C.base : Int) + k) = ((C.base + k : Nat) : Int) := by rw [IntKind.wrap_i64]; omega
    have e2 : IntKind.i64.wrap (((C.base + k : Nat) : Int) + n) = ((C.base + k + n : Nat) : Int) := by rw [IntKind.wrap_i64]; omega
    rw [e1, e2]
    have := words_mem p q l s ((C.base + k : Nat) : Int) ((C.base + k + n : Nat) : Int) w.drew hm h.mem.drew
    rw [show (min (max ((C.base + k + n : Nat) : Int) 0) (l.length : Int)).toNat = C.base + k + n by omega, show (min (max ((C.base + k : Nat) : Int) 0) (l.length : Int)).toNat = C.base + k by omega] at this
    exact this
  generalize seg C l k n = r at *
  clear h hk
  go_enter Try.func35, Try.ntmps35
  go_wp2_with fail
  go_region_held3 (fun w' => w'.cell? ⟨d, 0, none⟩ = some (.pointer (some ⟨p, 0, none⟩)) ∧ w'.cell? ⟨d, 1, none⟩ = some (.int .i64 C.base)) (go_keep)
    (first
      | (go_at_call 41; refine HL.out.mono ?_; rintro e w1 ⟨v, rfl, m1, t1⟩; have g2 : w1.cell? ⟨d, 0, none⟩ = some (.pointer (some ⟨p, 0, none⟩)) := (t1.cell (p := ⟨d, 0, none⟩) (block_lt h0) (by simp)).trans h0; have g3 : w1.cell? ⟨d, 1, none⟩ = some (.int .i64 C.base) := (t1.cell (p := ⟨d, 1, none⟩) (block_lt h1) (by simp)).trans h1; have HG := hide m1; have HT := hide ((Turned.refl [] w).drew.trans t1); clear HL m1 t1))
  go_wp2_with fail
  go_ret
  exact ⟨_, rfl, HG.out, HT.out⟩

set_option maxRecDepth 10000 in
/-- slices.Grow of nil. -/
theorem grow_nil (w : World) (n : Nat) (hn : n ≤ 1000000) :
    Calls Try.prog 51 #[.slice none 0 0, .int .i64 n] w fun e w' => ∃ v, e = .returned v ∧ w'.ownsRow w.heap.size 2 1 v 0 [] ∧ Turned [] w w' := by
  obtain ⟨i0, hi, hi0⟩ := Option.map_eq_some_iff.1 Try.info2
  simp only [Prod.mk.injEq] at hi0
  obtain ⟨hz0, hz1, hz2⟩ := hi0
  have und := Try.underlying40
  have undi : Try.prog.underlying 3 = some (.int .i64) := by kernel_rfl
  by_cases h0 : n = 0
  · subst h0
    go_enter Try.func51, Try.ntmps51
    go_wp2_with fail
    go_ret
    exact ⟨_, rfl, World.ownsRow_nil _ _ _ _, Turned.refl _ _⟩
  · have hr := fun ty => Lib.run_append_nil_zeros (P := Try.prog) w 40 3 ty 2 i0 (.int .i64 0) .i64 .i64 und undi hi hz0 n (by omega) (by omega) (by omega) (by rw [hz2]; omega)
    have hge := grownCap_ge w n 0 2
    have hle := grownCap_le_maxLen w n 0 2 (by unfold maxLen; omega)
    generalize grownCap w n 0 2 = G at *
    have hpos : (0 : Int) < (n : Int) := by omega
    go_enter Try.func51, Try.ntmps51
    go_wp2_with (at_builtin; refine Lib.wpList_append_run _ rfl _ _ _ _ rfl _ _ rfl rfl _ _ (hr _) ?_)
    go_ret
    refine ⟨_, rfl, ?_, ((Turned.refl [] w).drew).alloc _⟩
    have := World.ownsRow_made (base := w.heap.size) (e := 2) (size := 1) w.drew (Builtin.zeroCells #[Value.int .i64 0] n ++ Builtin.zeroCells #[Value.int .i64 0] (G - n)) G (Nat.le_refl _) hle (by simp [Builtin.zeroCells]; omega)
    exact this

/-- A slice of words that can be read. -/
def IR (w : World) (v : Value) (l : List Int) : Prop := (v = .slice none 0 0 ∧ l = []) ∨ ∃ g cap, v = .slice (some ⟨g, 0, none⟩) l.length cap ∧ g < w.heap.size ∧ ∀ i x, l[i]? = some x → w.cell? ⟨g, i, none⟩ = some (.int .i64 x)
theorem IR.turned {w w' : World} {v : Value} {l : List Int} (h : IR w v l) (t : Turned [] w w') : IR w' v l := by
  rcases h with h | ⟨g, cap, h1, h2, h3⟩
  · exact .inl h
  · exact .inr ⟨g, cap, h1, Nat.lt_of_lt_of_le h2 t.size, fun i x hx => by rw [t.cell (p := ⟨g, i, none⟩) h2 (by simp)]; exact h3 i x hx⟩
theorem IR.shape {w : World} {v : Value} {l : List Int} (h : IR w v l) : ∃ ao cp, v = .slice ao l.length cp := by
  rcases h with ⟨rfl, rfl⟩ | ⟨g, cp, rfl, _⟩
  · exact ⟨none, 0, rfl⟩
  · exact ⟨_, cp, rfl⟩
theorem IR.of_own {w : World} {B : Nat} {v : Value} {l : List Int} (h : w.ownsRow B 2 1 v l.length (l.map (Value.int .i64))) : IR w v l := by
  rcases h.2 with ⟨hv, hn⟩ | ⟨g, cap, cur, hv, hg, hh, hc, _, _, ht⟩
  · exact .inl ⟨hv, List.eq_nil_of_length_eq_zero hn⟩
  · refine .inr ⟨g, cap, hv, lt_of_heap hh, fun i x hx => ?_⟩
    rw [cell_of_heap hh]
    have h1 : (l.map (Value.int .i64))[i]? = some (.int .i64 x) := by rw [List.getElem?_map, hx]; rfl
    rw [← ht, List.getElem?_take] at h1
    split at h1
    · simpa using h1
    · cases h1

set_option maxRecDepth 10000 in
theorem concat_any (w : World) (B cap : Nat) (vs : List Value) (ls : List (List Int)) (hlen : ls.length = vs.length) (hn : vs.length ≤ 100) (hB : ∀ (i : Nat) v, vs[i]? = some v → w.cell? ⟨B, i, none⟩ = some v) (hI : ∀ (i : Nat) v, vs[i]? = some v → ∃ l, ls[i]? = some l ∧ IR w v l) (hm : ∀ l, l ∈ ls → l.length ≤ 10000) :
    Calls Try.prog 39 #[.slice (some ⟨B, 0, none⟩) vs.length cap] w fun e w' => ∃ v, e = .returned v ∧ (∃ n, w'.ownsRow w.heap.size 2 1 v n (ls.flatten.map (Value.int .i64))) ∧ Turned [] w w' := by
  have hsucc : ∀ (i : Nat) l, ls[i]? = some l → (ls.take (i + 1)).flatten = (ls.take i).flatten ++ l := by
    intro i l hl
    rw [List.take_add_one, hl, List.flatten_append]
    simp
  have hsum : ∀ i : Nat, i ≤ vs.length → (ls.take i).flatten.length ≤ i * 10000 := by
    intro i
    induction i with
    | zero => intro _; simp
    | succ i ih =>
      intro hi
      obtain ⟨l, hl⟩ : ∃ l, ls[i]? = some l := ⟨_, List.getElem?_eq_getElem (by omega)⟩
      rw [hsucc i l hl, List.length_append]
      have h1 := ih (by omega)
      have h2 := hm l (List.mem_of_getElem? hl)
      omega
  have HS := hide hsum
  have HC := hide hsucc
  have HI := hide hI
  have HB := hide hB
  have HLN := hide hlen
  have HM := hide hm
  have HG := hide (fun W n hn => grow_nil W n hn)
  obtain ⟨i0, hi, hi0⟩ := Option.map_eq_some_iff.1 Try.info2
  simp only [Prod.mk.injEq] at hi0
  obtain ⟨hz0, hz1, hz2⟩ := hi0
  clear hsum hsucc hI hB hlen hm
  go_enter Try.func39, Try.ntmps39
  go_wp2_with fail
  go_loopg [3, 5, 11] vs.length (fun gg s3 _ s11 wr => ∃ i k : Nat, s3 = .int .i64 (k : Int) ∧ s11 = .int .i64 (i : Int) ∧ i ≤ vs.length ∧ vs.length - i ≤ gg ∧ k ≤ 1000000 ∧ Aside ((ls.take i).flatten.length = k) ∧ Aside (wr = w))
  case atStart => exact ⟨0, 0, rfl, rfl, by omega, by omega, by omega, rfl, rfl⟩
  case round =>
    obtain ⟨i, k, rfl, rfl, hiv, hgg, hk, hsz, hwr⟩ := hrel
    have hwr' : w = wr := hwr.out.symm
    subst hwr'
    by_cases hlt : i < vs.length
    · have hltz : (i : Int) < (vs.length : Int) := by omega
      obtain ⟨v, hv⟩ : ∃ v, vs[i]? = some v := ⟨_, List.getElem?_eq_getElem hlt⟩
      obtain ⟨l, hl, hir⟩ := HI.out i v hv
      have hc := HB.out i v hv
      have hll := HM.out l (List.mem_of_getElem? hl)
      have hs2 := HS.out (i + 1) (by omega)
      have hfl := HC.out i l hl
      have hk2 : k + l.length ≤ 1000000 := by
        rw [hfl, List.length_append, hsz.out] at hs2
        omega
      have HK2 := hide (show (ls.take (i + 1)).flatten.length = k + l.length by rw [hfl, List.length_append, hsz.out])
      obtain ⟨ao, cp, hvv⟩ : ∃ ao cp, v = .slice ao l.length cp := by
        rcases hir with ⟨rfl, rfl⟩ | ⟨g, cp, rfl, _⟩
        · exact ⟨none, 0, rfl⟩
        · exact ⟨_, cp, rfl⟩
      subst hvv
      clear hir hs2 hfl hv hl
      have hneg : ¬ ((k : Int) + (l.length : Int) < 0) := by omega
      generalize l.length = n at *
      go_wp2_with fail
      go_roundg (vs.length - (i + 1))
      case measure => omega
      case rel => exact ⟨i + 1, k + n, by go_num, by go_num, by omega, Nat.le_refl _, hk2, HK2.out, rfl⟩
    · have hltz : ¬ (i : Int) < (vs.length : Int) := by omega
      have e : i = vs.length := by omega
      subst e
      go_wp2_with fail
      refine (HG.out _ k hk).mono ?_
      rintro e w1 ⟨v1, rfl, ho1, ht1⟩
      have HO1 := hide ho1
      have HT1 := hide ht1
      obtain ⟨-, ao1, cap1, hv1, -⟩ := ownsRow_any ho1
      subst hv1
      clear ho1 ht1 HG
      go_wp2_with fail
      go_loopg [6, 8, 27] vs.length (fun gg s6 _ s27 wr => ∃ (i m cp : Nat) (ao : Option Addr), s6 = .slice ao m cp ∧ s27 = .int .i64 (i : Int) ∧ i ≤ vs.length ∧ vs.length - i ≤ gg ∧ Aside ((ls.take i).flatten.length = m) ∧ Aside (wr.ownsRow w.heap.size 2 1 (.slice ao m cp) m ((ls.take i).flatten.map (Value.int .i64))) ∧ Aside (Turned [] w wr))
      case atStart => exact ⟨0, 0, cap1, ao1, rfl, rfl, by omega, by omega, rfl, HO1.out, HT1.out⟩
      case round =>
        obtain ⟨j, m, cp, ao, rfl, rfl, hjv, hgg2, hm2, hown, htu⟩ := hrel
        by_cases hlt2 : j < vs.length
        · have hltz2 : (j : Int) < (vs.length : Int) := by omega
          obtain ⟨v, hv⟩ : ∃ v, vs[j]? = some v := ⟨_, List.getElem?_eq_getElem hlt2⟩
          obtain ⟨l, hl, hir⟩ := HI.out j v hv
          have hc0 := HB.out j v hv
          have hc : wr.cell? ⟨B, j, none⟩ = some v := by rw [htu.out.cell (p := ⟨B, j, none⟩) (block_lt hc0) (by simp)]; exact hc0
          have hir2 := hir.turned htu.out
          have hs2 := HS.out (j + 1) (by omega)
          have hfl := HC.out j l hl
          have hk2 : m + l.length ≤ 1000000 := by
            rw [hfl, List.length_append, hm2.out] at hs2
            omega
          have HFL := hide hfl
          clear hs2 hfl hv hl hc0 hir
          rcases hir2 with ⟨rfl, rfl⟩ | ⟨g, cp2, rfl, hg, hcell⟩
          · go_wp2_with (at_builtin; refine wpList_append_own_none rfl _ _ 40 rfl w.heap.size 2 i0 1 Try.underlying40 hi _ _ _ rfl hown.out rfl ?_)
            go_roundg (vs.length - (j + 1))
            case measure => omega
            case rel =>
              have e : (ls.take (j + 1)).flatten = (ls.take j).flatten := by rw [HFL.out, List.append_nil]
              exact ⟨j + 1, m, cp, ao, rfl, by go_num, by omega, Nat.le_refl _, by rw [e]; exact hm2, by rw [e]; exact hown, htu⟩
          · have HCE : Hid (∀ t u, (l.map (Value.int .i64))[t]? = some u → wr.cell? (Addr.add ⟨g, 0, none⟩ t) = some u) := by
              intro t u hu
              rw [List.getElem?_map] at hu
              obtain ⟨x, hx, rfl⟩ := Option.map_eq_some_iff.1 hu
              rw [show Addr.add ⟨g, 0, none⟩ t = ⟨g, t, none⟩ by by_cases ht : t = 0 <;> simp [Addr.add, ht]]
              exact hcell t x hx
            clear hcell
            go_wp2_with (at_builtin; (refine wpList_append_own _ rfl _ _ 40 rfl w.heap.size 2 i0 (.int .i64 0) 1 8 Try.underlying40 hi hz0 hz1 hz2 rfl (by decide) _ _ _ rfl hown.out ⟨g, 0, none⟩ l.length cp2 (l.map (Value.int .i64)) rfl (by simp) HCE.out (by intro u hu; obtain ⟨x, _, rfl⟩ := List.mem_map.1 hu; rfl) (by unfold maxLen; omega) (by omega) htu.out.size ?_); intro v' w3 hown' hgrow3 hnil3; have HO3 := hide hown'; have HT3 := hide (htu.out.grown hgrow3 (fun k hk => .inr (ownsRow_lt hown.out k hk).1)); clear hown' hgrow3 hnil3)
            obtain ⟨-, ao3, cap3, hv3, -⟩ := ownsRow_any HO3.out
            subst hv3
            go_wp2_with fail
            go_roundg (vs.length - (j + 1))
            case measure => omega
            case rel =>
              refine ⟨j + 1, m + l.length, cap3, ao3, rfl, by go_num, by omega, Nat.le_refl _, ?_, ?_, HT3.out⟩
              · rw [HFL.out, List.length_append, hm2.out]; rfl
              · rw [HFL.out, List.map_append]; exact HO3.out
        · have hltz2 : ¬ (j : Int) < (vs.length : Int) := by omega
          have e : j = vs.length := by omega
          subst e
          have e2 : ls.take vs.length = ls := by rw [← HLN.out, List.take_length]
          rw [e2] at hm2 hown
          go_wp2_with fail
          go_ret
          exact ⟨.slice ao m cp, rfl, ⟨m, by rw [← List.map_flatten]; exact hown.out⟩, htu.out⟩

/-- What a deque has, as it lies there. -/
def itemsOf (C : Cfg) (l : List Int) : List Int :=
  let held := (heldOf C (rd C l 0) (rd C l 1)).toNat
  let first := slotOf C (rd C l 0)
  let ahead := min held (4 + C.cap - first)
  seg C l first ahead ++ (seg C l 4 (held - ahead) ++ seg C l (4 + C.cap) (stackedOf C (rd C l 3)))

theorem heldOf_nat (C : Cfg) (t b : Int) : heldOf C t b = ((heldOf C t b).toNat : Int) ∧ (heldOf C t b).toNat ≤ C.cap := by
  unfold heldOf
  split <;> omega
theorem seg_length (C : Cfg) (l : List Int) (k n : Nat) (h : C.base + k + n ≤ l.length) : (seg C l k n).length = n := by
  unfold seg
  rw [List.length_drop, List.length_take]
  omega
theorem seg_get (C : Cfg) (l : List Int) (k n i : Nat) (h : C.base + k + n ≤ l.length) (hi : i < n) : (seg C l k n)[i]? = some (rd C l (k + i)) := by
  unfold seg rd
  rw [List.getElem?_drop, List.getElem?_take, if_pos (by omega), List.getD_eq_getElem?_getD, show C.base + (k + i) = C.base + k + i by omega, List.getElem?_eq_getElem (by omega)]
  rfl

set_option maxHeartbeats 1000000 in
set_option maxRecDepth 10000 in
theorem items_any (w : World) (d p q : Nat) (C : Cfg) (l : List Int) (s : Int) (ht : -4611686018427387904 ≤ rd C l 0 ∧ rd C l 0 ≤ 4611686018427387904) (hb : -4611686018427387904 ≤ rd C l 1 ∧ rd C l 1 ≤ 4611686018427387904) (h : Dq w d p q C l s) :
    Calls Try.prog 18 #[.pointer (some ⟨d, 0, none⟩)] w fun e w' => ∃ v, e = .returned v ∧ (∃ n, w'.ownsRow w.heap.size 2 1 v n ((itemsOf C l).map (Value.int .i64))) ∧ Turned [] w w' := by
  have hcap := h.cap
  have hov := h.over
  have hroom := h.room
  have hfirst := slotOf_lt C (rd C l 0) h.cap.1
  have hst := stackedOf_le C (rd C l 3)
  have hheld := heldOf_nat C (rd C l 0) (rd C l 1)
  have HN := hide (dnone_any w d p q C l s h)
  have HW0 := hide (dwords_any w d p q C l s 0 4 (by omega) h)
  have hsl := seg_length C l 0 4 (by omega)
  have hg0 := seg_get C l 0 4 0 (by omega) (by omega)
  have hg1 := seg_get C l 0 4 1 (by omega) (by omega)
  have hg3 := seg_get C l 0 4 3 (by omega) (by omega)
  rw [Nat.zero_add] at hg0 hg1 hg3
  have HH := hide h
  have HHeld := hide (fun W (g : Dq W d p q C l s) => held_any W d p q C l s (rd C l 0) (rd C l 1) ht hb g)
  have HSlot := hide (fun W (g : Dq W d p q C l s) => slot_any W d p q C l s (rd C l 0) g)
  have HStk := hide (fun W (g : Dq W d p q C l s) => stacked_any W d p q C l s (rd C l 3) g)
  have HCell := hide (fun W (g : Dq W d p q C l s) => cell_any W d p q C l s 0 (by omega) g)
  rw [Nat.add_zero] at HCell
  have HWd := hide (fun W (k n : Nat) (hk : k + n ≤ 4 + C.cap + C.over) (g : Dq W d p q C l s) => dwords_any W d p q C l s k n hk g)
  have HIt : Hid (itemsOf C l = seg C l (slotOf C (rd C l 0)) (min (heldOf C (rd C l 0) (rd C l 1)).toNat (4 + C.cap - slotOf C (rd C l 0))) ++ (seg C l 4 ((heldOf C (rd C l 0) (rd C l 1)).toNat - min (heldOf C (rd C l 0) (rd C l 1)).toNat (4 + C.cap - slotOf C (rd C l 0))) ++ seg C l (4 + C.cap) (stackedOf C (rd C l 3)))) := rfl
  have HSL := hide (fun k n (hk : C.base + k + n ≤ l.length) => seg_length C l k n hk)
  rw [hheld.1] at HHeld
  generalize itemsOf C l = items at *
  generalize stackedOf C (rd C l 3) = stk at *
  generalize (heldOf C (rd C l 0) (rd C l 1)).toNat = held at *
  generalize slotOf C (rd C l 0) = first at *
  rw [hsl] at HW0
  generalize seg C l 0 4 = own at *
  have hroom' := h.most
  clear h hsl ht hb
  go_enter Try.func18, Try.ntmps18
  go_wp2_with fail
  refine HN.out.mono ?_
  rintro e w0 ⟨rfl, rfl⟩
  clear HN
  go_wp2_with fail
  refine HW0.out.mono ?_
  rintro e w1 ⟨v, rfl, ho1, ht1⟩
  obtain ⟨g, cap1, rfl, -, -, -, hc, hf, -⟩ := ownsRow_open ho1 (by omega)
  have c0 := hc 0 (.int .i64 (rd C l 0)) (by rw [List.getElem?_map, hg0]; rfl)
  have c1 := hc 1 (.int .i64 (rd C l 1)) (by rw [List.getElem?_map, hg1]; rfl)
  have c3 := hc 3 (.int .i64 (rd C l 3)) (by rw [List.getElem?_map, hg3]; rfl)
  have HT1 := hide ht1
  have HD1 := hide (HH.out.turned ht1 (by simp) (by simp) (by simp))
  clear hc hf ho1 ht1 hg0 hg1 hg3 HW0 HH
  generalize rd C l 0 = T at *
  generalize rd C l 1 = Bt at *
  generalize rd C l 3 = S3 at *
  have HV2 := hide (fun m => HHeld.out (w1.drewN m) (HD1.out.drewN m))
  clear HHeld
  go_wp2_with fail
  go_quiet ((go_at_call 36; exact Calls.quiet_of_same (HV2.out _)))
  go_wp2_with fail
  refine (HSlot.out _ (HD1.out.drewN _)).mono ?_
  rintro e w2 ⟨rfl, hw2⟩
  have HT2 := hide (show Turned [] w0 w2 by rw [hw2]; exact HT1.out.drewN _)
  have HD2 := hide (show Dq w2 d p q C l s by rw [hw2]; exact HD1.out.drewN _)
  have d3 : w2.cell? ⟨g, 3, none⟩ = some (.int .i64 S3) := by rw [hw2]; exact c3
  clear hw2 HD1 HT1 c0 c1 c3 HSlot HV2
  go_wp2_with fail
  refine (HCell.out _ HD2.out).mono ?_
  rintro e w3 ⟨rfl, rfl⟩
  obtain ⟨ahead, hah⟩ : ∃ a, a = min held (4 + C.cap - first) := ⟨_, rfl⟩
  rw [← hah] at HIt
  have HAH := hide hah
  have fin : Hid (Calls Try.prog 18 #[.pointer (some ⟨d, 0, none⟩)] w0 fun e w' => True) → True := fun _ => trivial
  clear fin
  have e1 : ((4 + C.cap : Nat) : Int) = 4 + (C.cap : Int) := by omega
  have HWa := hide (HWd.out w3.drew first ahead (by omega) HD2.out.drew)
  have HWb : Hid (∀ W, Dq W d p q C l s → Calls Try.prog 35 #[.pointer (some ⟨d, 0, none⟩), .int .i64 4, .int .i64 (IntKind.i64.wrap ((held : Int) - (ahead : Int)))] W fun e w' => ∃ v, e = .returned v ∧ w'.ownsRow W.heap.size 2 1 v (seg C l 4 (held - ahead)).length ((seg C l 4 (held - ahead)).map (Value.int .i64)) ∧ Turned [] W w') := fun W g => by
    rw [show IntKind.i64.wrap ((held : Int) - (ahead : Int)) = ((held - ahead : Nat) : Int) by rw [IntKind.wrap_i64]; omega]
    exact HWd.out W 4 (held - ahead) (by omega) g
  have HWc := hide (fun W (g : Dq W d p q C l s) => HWd.out W (4 + C.cap) stk (by omega) g)
  have hla := HSL.out first ahead (by omega)
  have hlb := HSL.out 4 (held - ahead) (by omega)
  have hlc := HSL.out (4 + C.cap) stk (by omega)
  have HLA := hide hla
  have HLB := hide hlb
  have HLC := hide hlc
  generalize seg C l first ahead = sa at *
  generalize seg C l 4 (held - ahead) = sb at *
  generalize seg C l (4 + C.cap) stk = sc at *
  have HCC : Hid (∀ W va vb vc, Turned [] w0 W → IR W va sa → IR W vb sb → IR W vc sc → Calls Try.prog 39 #[.slice (some ⟨W.heap.size, 0, none⟩) 3 3] (W.alloc (.cells #[va, vb, vc] 40)) fun e w' => ∃ v, e = .returned v ∧ (∃ n, w'.ownsRow w0.heap.size 2 1 v n ((sa ++ (sb ++ sc)).map (Value.int .i64))) ∧ Turned [] W w') := by
    intro W va vb vc hT h1 h2 h3
    have t0 : Turned [] W (W.alloc (.cells #[va, vb, vc] 40)) := (Turned.refl _ _).alloc _
    have hla' := HLA.out
    have hlb' := HLB.out
    have hlc' := HLC.out
    have hc := concat_any (W.alloc (.cells #[va, vb, vc] 40)) W.heap.size 3 [va, vb, vc] [sa, sb, sc] rfl (by simp) (fun i v hv => by
        rw [cell_of_heap (heap_alloc_new _ _)]
        match i, hv with
        | 0, hv => exact hv
        | 1, hv => exact hv
        | 2, hv => exact hv
        | i + 3, hv => simp at hv) (fun i v hv => by
        match i, hv with
        | 0, hv => cases hv; exact ⟨sa, rfl, h1.turned t0⟩
        | 1, hv => cases hv; exact ⟨sb, rfl, h2.turned t0⟩
        | 2, hv => cases hv; exact ⟨sc, rfl, h3.turned t0⟩
        | i + 3, hv => simp at hv) (fun x hx => by
        simp at hx
        rcases hx with rfl | rfl | rfl <;> omega)
    refine hc.mono ?_
    rintro e w' ⟨v, rfl, ⟨n, ho⟩, ht⟩
    refine ⟨v, rfl, ⟨n, ?_⟩, t0.trans ht⟩
    have ho' := ownsRow_mono ho (B' := w0.heap.size) (by have := hT.size; simp; omega)
    simpa using ho'
  clear hla hlb hlc e1 HWd HSL
  by_cases hA : held ≤ 4 + C.cap - first
  · have ea : ahead = held := by omega
    have hA1 : (held : Int) ≤ 4 + (C.cap : Int) - (first : Int) := by omega
    clear hah HAH
    subst ea
    rw [Int.sub_self] at HWb
    go_wp2_with fail
    go_region_held3 (fun w' => w'.cell? ⟨g, 3, none⟩ = some (.int .i64 S3)) (go_keep)
      (first
        | (go_at_call 35; refine HWa.out.mono ?_; rintro e wa ⟨va, rfl, oa, ta⟩; obtain ⟨aoa, cpa, rfl⟩ := (IR.of_own oa).shape; have ga : wa.cell? ⟨g, 3, none⟩ = some (.int .i64 S3) := (ta.cell (p := ⟨g, 3, none⟩) (block_lt d3) (by simp)).trans d3; have DA := hide (HD2.out.drew.turned ta (by simp) (by simp) (by simp)); have OA := hide (IR.of_own oa); have TA := hide ((HT2.out.drew).trans ta); clear oa ta HWa)
        | (go_at_call 35; refine (HWb.out _ DA.out).mono ?_; rintro e wb ⟨vb, rfl, ob, tb⟩; obtain ⟨aob, cpb, rfl⟩ := (IR.of_own ob).shape; have gb : wb.cell? ⟨g, 3, none⟩ = some (.int .i64 S3) := (tb.cell (p := ⟨g, 3, none⟩) (block_lt ga) (by simp)).trans ga; have DB := hide (DA.out.turned tb (by simp) (by simp) (by simp)); have OB := hide (IR.of_own ob); have OA2 := hide (OA.out.turned tb); have TB := hide (TA.out.trans tb); clear ob tb HWb)
        | (go_at_call 38; refine (HCell.out _ DB.out).mono ?_; rintro e wx ⟨rfl, rfl⟩)
        | (go_at_call 40; refine (HStk.out _ DB.out).mono ?_; rintro e wy ⟨rfl, rfl⟩)
        | (go_at_call 35; refine (HWc.out _ DB.out).mono ?_; rintro e wc ⟨vc, rfl, oc, tc⟩; obtain ⟨aoc, cpc, rfl⟩ := (IR.of_own oc).shape; have gc : wc.cell? ⟨g, 3, none⟩ = some (.int .i64 S3) := (tc.cell (p := ⟨g, 3, none⟩) (block_lt gb) (by simp)).trans gb; have OC := hide (IR.of_own oc); have OB2 := hide (OB.out.turned tc); have OA3 := hide (OA2.out.turned tc); have TC := hide (TB.out.trans tc); clear oc tc HWc)
        | (go_at_call 39; refine (HCC.out wc _ _ _ TC.out OA3.out OB2.out OC.out).mono ?_; rintro e wd ⟨vd, rfl, od, td⟩; have gd : wd.cell? ⟨g, 3, none⟩ = some (.int .i64 S3) := (td.cell (p := ⟨g, 3, none⟩) (block_lt gc) (by simp)).trans gc; have OD := hide od; have TD := hide td; clear od td))
    go_wp2_with fail
    go_ret
    exact ⟨vd, rfl, by rw [HIt.out]; exact OD.out, TC.out.trans TD.out⟩
  · have e2 : (ahead : Int) = 4 + (C.cap : Int) - (first : Int) := by omega
    have hA1 : ¬ ((held : Int) ≤ 4 + (C.cap : Int) - (first : Int)) := by omega
    have hA2 : 4 + (C.cap : Int) - (first : Int) < (held : Int) := by omega
    rw [e2] at HWa HWb
    clear hah HAH e2 hA
    go_wp2_with fail
    go_region_held3 (fun w' => w'.cell? ⟨g, 3, none⟩ = some (.int .i64 S3)) (go_keep)
      (first
        | (go_at_call 35; refine HWa.out.mono ?_; rintro e wa ⟨va, rfl, oa, ta⟩; obtain ⟨aoa, cpa, rfl⟩ := (IR.of_own oa).shape; have ga : wa.cell? ⟨g, 3, none⟩ = some (.int .i64 S3) := (ta.cell (p := ⟨g, 3, none⟩) (block_lt d3) (by simp)).trans d3; have DA := hide (HD2.out.drew.turned ta (by simp) (by simp) (by simp)); have OA := hide (IR.of_own oa); have TA := hide ((HT2.out.drew).trans ta); clear oa ta HWa)
        | (go_at_call 35; refine (HWb.out _ DA.out).mono ?_; rintro e wb ⟨vb, rfl, ob, tb⟩; obtain ⟨aob, cpb, rfl⟩ := (IR.of_own ob).shape; have gb : wb.cell? ⟨g, 3, none⟩ = some (.int .i64 S3) := (tb.cell (p := ⟨g, 3, none⟩) (block_lt ga) (by simp)).trans ga; have DB := hide (DA.out.turned tb (by simp) (by simp) (by simp)); have OB := hide (IR.of_own ob); have OA2 := hide (OA.out.turned tb); have TB := hide (TA.out.trans tb); clear ob tb HWb)
        | (go_at_call 38; refine (HCell.out _ DB.out).mono ?_; rintro e wx ⟨rfl, rfl⟩)
        | (go_at_call 40; refine (HStk.out _ DB.out).mono ?_; rintro e wy ⟨rfl, rfl⟩)
        | (go_at_call 35; refine (HWc.out _ DB.out).mono ?_; rintro e wc ⟨vc, rfl, oc, tc⟩; obtain ⟨aoc, cpc, rfl⟩ := (IR.of_own oc).shape; have gc : wc.cell? ⟨g, 3, none⟩ = some (.int .i64 S3) := (tc.cell (p := ⟨g, 3, none⟩) (block_lt gb) (by simp)).trans gb; have OC := hide (IR.of_own oc); have OB2 := hide (OB.out.turned tc); have OA3 := hide (OA2.out.turned tc); have TC := hide (TB.out.trans tc); clear oc tc HWc)
        | (go_at_call 39; refine (HCC.out wc _ _ _ TC.out OA3.out OB2.out OC.out).mono ?_; rintro e wd ⟨vd, rfl, od, td⟩; have gd : wd.cell? ⟨g, 3, none⟩ = some (.int .i64 S3) := (td.cell (p := ⟨g, 3, none⟩) (block_lt gc) (by simp)).trans gc; have OD := hide od; have TD := hide td; clear od td))
    go_wp2_with fail
    go_ret
    exact ⟨vd, rfl, by rw [HIt.out]; exact OD.out, TC.out.trans TD.out⟩
end Go.Proofs.Ytokabpgdklihlaa

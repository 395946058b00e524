/-
  Texts of the proof, several in one: MarkMade, MarkNewP.
-/
import Derived.Test.YtgbclfhgpkmcnaaGreatDoorPack31
import Derived.Test.YtgbclfhgpkmcnaaGreatDoorPack32
import Derived.Test.YtgbclfhgpkmcnaaGreatDoorPack14
import Derived.ArgAppend
import Derived.Test.YtgbclfhgpkmcnaaGreatDoorPack9
/-
  What New of package mark goes by: Need, a copy of the classes, the deques (laid), a new worker.
-/
namespace Go.Proofs.YtgbclfhgpkmcnaaGreatDoor
open Go.RowKit
set_option linter.unusedVariables false

theorem mneed_ok (n cap over : Nat) (hn : 1 ≤ n ∧ n ≤ 64) (hc : 1 ≤ cap ∧ cap ≤ 64) (ho : over ≤ 4096) (w : World) :
    Calls Tryz.prog 29 #[.int .i64 n, .int .i64 cap, .int .i64 over] w fun e w' => e = .returned (.int .i64 ((1 + n * (4 + cap + over) : Nat) : Int)) ∧ w' = w := by
  have HN := hide (need_ok cap over hc ho w)
  have h1 : ¬ ((n : Int) < 1) := by omega
  have h2 : ¬ ((64 : Int) < n) := by omega
  obtain ⟨m, hm⟩ : ∃ m, m = 4 + cap + over := ⟨_, rfl⟩
  rw [← hm] at HN ⊢
  have hm1 : m ≤ 4164 := by omega
  have hm0 : ((m : Int) == 0) = false := by simp; omega
  have hmul : n * m ≤ 64 * 4164 := Nat.mul_le_mul hn.2 hm1
  have e1 : wrap64 ((n : Int) * (m : Int)) = ((n * m : Nat) : Int) := by rw [w64 _ (by rw [← Int.natCast_mul]; omega), Int.natCast_mul]
  have e2 : wrap64 (1 + ((n * m : Nat) : Int)) = ((1 + n * m : Nat) : Int) := by rw [w64 _ (by omega)]; omega
  generalize n * m = k at *
  have HE2 := hide e2
  clear hn hc ho hmul hm hm1
  go_enter Tryz.func29, Tryz.ntmps29
  go_wp2_with fail
  refine HN.out.mono ?_
  rintro e w1 ⟨rfl, rfl⟩
  go_wp2_with fail
  go_ret
  first | exact ⟨rfl, rfl⟩ | exact ⟨congrArg (fun v => Ending.returned (.int .i64 v)) HE2.out, rfl⟩
theorem mneed_bad (n : Int) (cap over : Nat) (hn : n < 1 ∨ 64 < n) (hc : 1 ≤ cap ∧ cap ≤ 64) (ho : over ≤ 4096) (w : World) :
    Calls Tryz.prog 29 #[.int .i64 n, .int .i64 cap, .int .i64 over] w fun e w' => e = .returned (.int .i64 0) ∧ w' = w := by
  have HN := hide (need_ok cap over hc ho w)
  generalize 4 + cap + over = m at *
  clear hc ho
  by_cases h1 : n < 1
  · clear hn
    go_enter Tryz.func29, Tryz.ntmps29
    go_wp2_with fail
    refine HN.out.mono ?_
    rintro e w1 ⟨rfl, rfl⟩
    go_wp2_with fail
    go_ret
    exact ⟨rfl, rfl⟩
  · have h2 : 64 < n := by omega
    clear hn
    go_enter Tryz.func29, Tryz.ntmps29
    go_wp2_with fail
    refine HN.out.mono ?_
    rintro e w1 ⟨rfl, rfl⟩
    go_wp2_with fail
    go_ret
    exact ⟨rfl, rfl⟩

set_option maxRecDepth 100000 in
set_option maxHeartbeats 2000000 in
/-- The deques, one behind the other, in a row of their own. -/
theorem laid_any (P : MP) (w : World) (p q : Nat) (l : List Int) (s : Int) (hn : 1 ≤ P.n ∧ P.n ≤ 4) (hc : 1 ≤ P.cap ∧ P.cap ≤ 64) (ho : P.over ≤ 4096) (hl : 1 + P.n * P.need ≤ l.length) (hm : l.length ≤ 65536) (h : Mem w p q l s) :
    Calls Tryz.prog 53 #[.pointer (some ⟨p, 0, none⟩), .int .i64 P.n, .int .i64 P.cap, .int .i64 P.over] w fun e w' => ∃ (g : Nat) (ds : List Nat) (c : Array Value), e = .returned (.slice (some ⟨g, 0, none⟩) P.n P.n) ∧ w.heap.size ≤ g ∧ ds.length = P.n ∧ w'.heap[g]? = some (.cells c 120 (0, 0)) ∧ c.size = P.n ∧ (∀ (i d : Nat), ds[i]? = some d → c[i]? = some (.pointer (some ⟨d, 0, none⟩)) ∧ Dq w' d p q (P.cfg i) l s) ∧ Turned [] w w' := by
  have hmk := run_make_row' (P := Tryz.prog) 84 120 (.pointer none) 8 Tryz.underlying84 Tryz.infoDq rfl .i64 .i64 P.n (by omega) (by omega)
  have hneed : P.need = 4 + P.cap + P.over := rfl
  have HN := hide (fun w => need_ok P.cap P.over hc ho w)
  have HD : Hid (∀ wr j, j < P.n → Mem wr p q l s → Calls Tryz.prog 66 #[.pointer (some ⟨p, 0, none⟩), .int .i64 ((1 + j * P.need : Nat) : Int), .int .i64 P.cap, .int .i64 P.over] wr fun e w' => e = .returned (.tuple #[.pointer (some ⟨wr.heap.size, 0, none⟩), .int .i64 0]) ∧ Dq w' wr.heap.size p q (P.cfg j) l s ∧ Turned [] wr w' ∧ w'.heap.size = wr.heap.size + 1) := by
    intro wr j hj hmem
    have hr : (P.cfg j).base + (4 + (P.cfg j).cap + (P.cfg j).over) ≤ l.length := by
      unfold MP.cfg
      simp only
      have h1 : (j + 1) * P.need ≤ P.n * P.need := Nat.mul_le_mul_right _ hj
      rw [Nat.add_mul] at h1
      omega
    exact dnew_ok wr p q (P.cfg j) l s hc ho hr hm hmem
  have hwr : ∀ j : Nat, j < P.n → wrap64 ((j : Int) * (P.need : Int)) = ((j * P.need : Nat) : Int) ∧ wrap64 (1 + ((j * P.need : Nat) : Int)) = ((1 + j * P.need : Nat) : Int) := by
    intro j hj
    have h1 : j * P.need ≤ P.n * P.need := Nat.mul_le_mul_right _ (by omega)
    refine ⟨?_, ?_⟩
    · rw [w64 _ (by rw [← Int.natCast_mul]; omega), Int.natCast_mul]
    · rw [w64 _ (by omega)]; omega
  have HWr := hide hwr
  have H0 := hide h
  have hn4 := hn.2
  rw [← hneed] at HN
  clear h hl hm hwr hneed hn
  obtain ⟨nd, hnd⟩ : ∃ nd, nd = P.need := ⟨_, rfl⟩
  generalize hcf : P.cfg = cf at *
  rw [← hnd] at HN HD HWr
  clear hnd
  generalize P.n = n at *
  generalize P.cap = cp at *
  generalize P.over = ov at *
  go_enter Tryz.func53, Tryz.ntmps53
  have HT2 := hide ((Turned.refl [] w).alloc (.cells (madeCells #[.pointer none] n) 120))
  have HB : Hid ((w.alloc (.cells (madeCells #[.pointer none] n) 120)).heap[w.heap.size]? = some (.cells (madeCells #[.pointer none] n) 120 (0, 0))) := heap_alloc_new _ _
  have HZ : Hid ((madeCells #[Value.pointer none] n).size = n) := by show _ = _; simp [madeCells]
  go_wp2_with fail
  generalize hg : w.heap.size = g at *
  have HG := hide (Nat.le_of_eq hg)
  clear hmk hg
  go_loopg [10, 15, 16, 17, 18, 19, 20, 21, 22, 23, 24, 25, 26, 27, 28, 29, 30, 31, 32, 33, 34] n (fun gg _ s15 _ _ _ _ _ _ _ _ _ _ _ _ _ _ _ _ _ _ _ wr => ∃ (j : Nat) (ds : List Nat) (c : Array Value), s15 = .int .i64 (j : Int) ∧ j ≤ n ∧ n - j ≤ gg ∧ ds.length = j ∧ Aside (wr.heap[g]? = some (.cells c 120 (0, 0)) ∧ c.size = n ∧ ∀ (i d : Nat), ds[i]? = some d → c[i]? = some (.pointer (some ⟨d, 0, none⟩)) ∧ Dq wr d p q (cf i) l s) ∧ Aside (Turned [] w wr))
  case atStart => exact ⟨0, [], _, rfl, Nat.zero_le _, by omega, rfl, ⟨HB.out, HZ.out, fun i d hi => by simp at hi⟩, HT2.out⟩
  case round =>
    obtain ⟨j, dl, c, rfl, hj, hgg, hdl, HI, HTr⟩ := hrel
    by_cases hlt : j < n
    · have hltz : (j : Int) < (n : Int) := by omega
      obtain ⟨e1, e2⟩ := HWr.out j hlt
      have hmem := H0.out.turned HTr.out (by simp) (by simp)
      have HDj := hide (HD.out wr j hlt hmem)
      have hcj := HI.out.1
      have hcell : wr.cell? ⟨g, j, none⟩ = some (c[j]'(by have := HI.out.2.1; omega)) := by rw [cell_of_heap hcj, Array.getElem?_eq_getElem]
      have hlg := lt_of_heap hcj
      have HNw := hide (HN.out wr)
      generalize ((1 + j * nd : Nat) : Int) = b1 at *
      generalize ((j * nd : Nat) : Int) = b0 at *
      generalize c[j]'(by have := HI.out.2.1; omega) = u at *
      clear hcj hmem
      go_wp2_with fail
      refine HNw.out.mono ?_
      rintro e w1 ⟨rfl, hw1⟩
      rw [hw1]
      clear hw1 w1 HNw
      go_wp2_with fail
      refine HDj.out.mono ?_
      rintro e w1 ⟨rfl, hD1, t1, hs1⟩
      have hc1 : w1.heap[g]? = some (.cells c 120 (0, 0)) := t1.at HI.out.1 (by simp)
      have hcell1 : w1.cell? ⟨g, j, none⟩ = some u := by rw [t1.cell (p := ⟨g, j, none⟩) hlg (by simp)]; exact hcell
      have hfz : w1.frozen? ⟨g, j, none⟩ = false := by simp [World.frozen?, hc1]
      have HX : Hid ((w1.setCell ⟨g, j, none⟩ (.pointer (some ⟨wr.heap.size, 0, none⟩))).heap[g]? = some (.cells (c.setIfInBounds j (.pointer (some ⟨wr.heap.size, 0, none⟩))) 120 (0, 0)) ∧ (c.setIfInBounds j (.pointer (some ⟨wr.heap.size, 0, none⟩))).size = n ∧ ∀ (i d : Nat), (dl ++ [wr.heap.size])[i]? = some d → (c.setIfInBounds j (.pointer (some ⟨wr.heap.size, 0, none⟩)))[i]? = some (.pointer (some ⟨d, 0, none⟩)) ∧ Dq (w1.setCell ⟨g, j, none⟩ (.pointer (some ⟨wr.heap.size, 0, none⟩))) d p q (cf i) l s) := by
        have t2 : Turned [g] w1 (w1.setCell ⟨g, j, none⟩ (.pointer (some ⟨wr.heap.size, 0, none⟩))) := (Turned.refl _ _).setCell (by simp) _
        have keepD : ∀ d C, Dq w1 d p q C l s → Dq (w1.setCell ⟨g, j, none⟩ (.pointer (some ⟨wr.heap.size, 0, none⟩))) d p q C l s := fun d C hD => hD.turned t2 (by simp; exact ne_of_type hD.head hc1 (by decide)) (by simp; exact ne_of_type hD.mem.head hc1 (by decide)) (by simp; exact ne_of_type hD.mem.row hc1 (by decide))
        refine ⟨heap_setCell_at _ _ _ _ _ _ hc1 _, by simp [HI.out.2.1], fun i d hi => ?_⟩
        rw [List.getElem?_append] at hi
        split at hi
        · rename_i hil
          obtain ⟨q1, q2⟩ := HI.out.2.2 i d hi
          exact ⟨by rw [Array.getElem?_setIfInBounds_ne (by omega)]; exact q1, keepD d _ (q2.turned t1 (by simp) (by simp) (by simp))⟩
        · rename_i hil
          have hij : i = j := by
            have := (List.getElem?_eq_some_iff.1 hi).1
            simp at this
            omega
          subst hij
          simp [hdl] at hi
          subst hi
          exact ⟨by rw [Array.getElem?_setIfInBounds_self_of_lt (by have := HI.out.2.1; omega)], keepD _ _ hD1⟩
      have HT3 := hide ((HTr.out.trans t1).setCell (p := ⟨g, j, none⟩) (.inr HG.out) (.pointer (some ⟨wr.heap.size, 0, none⟩)))
      have hlen : (dl ++ [wr.heap.size]).length = j + 1 := by simp [hdl]
      clear hD1 t1 hs1 hc1 hcell HDj HTr
      go_wp2_with fail
      go_roundg (n - (j + 1))
      case measure => omega
      case rel => exact ⟨j + 1, _, _, by go_num, by omega, Nat.le_refl _, hlen, HX.out, HT3.out⟩
    · have hjm : j = n := by omega
      have hltz : ¬ (j : Int) < (n : Int) := by omega
      subst hjm
      go_wp2_with fail
      go_ret
      exact ⟨g, rfl, HG.out, dl, hdl, c, HI.out.1, HI.out.2.1, HI.out.2.2, HTr.out⟩

set_option maxRecDepth 100000 in
/-- A new worker: without anything. -/
theorem newW_any (M gd nd cd : Nat) (w : World) :
    Calls Tryz.prog 54 #[.pointer (some ⟨M, 0, none⟩), .slice (some ⟨gd, 0, none⟩) nd cd] w fun e w' => e = .returned (.pointer (some ⟨w.heap.size, 0, none⟩)) ∧ WmR w' w.heap.size (mwCells .choose w.heap.size M gd nd cd (.slice none 0 0) (.slice none 0 0) Blk.zero (.slice none 0 0) 0 none 0 none 0 false) ∧ Turned [] w w' ∧ w'.heap.size = w.heap.size + 1 := by
  go_enter Tryz.func54, Tryz.ntmps54
  go_wp2_with fail
  go_ret
  exact ⟨rfl, heap_alloc_new _ _, (Turned.refl _ _).alloc _, World.size_alloc ..⟩
end Go.Proofs.YtgbclfhgpkmcnaaGreatDoor

/-
  What New of package mark goes by, at its loop: a worker more ('Nw', 'Nw.more'), and the marker that comes of it ('Nw.mk').
-/
namespace Go.Proofs.YtgbclfhgpkmcnaaGreatDoor
open Go.RowKit
set_option linter.unusedVariables false

theorem rotL_split {ds : List Nat} {j : Nat} (hj : j ≤ ds.length) : [ds.drop j, ds.take j].flatten = rotL ds j := by
  apply List.ext_getElem?
  intro i
  simp only [List.flatten_cons, List.flatten_nil, List.append_nil]
  by_cases hi : i < ds.length
  · rw [rotL_get hi]
    by_cases h1 : i < ds.length - j
    · rw [List.getElem?_append_left (by simp; omega), List.getElem?_drop, Nat.mod_eq_of_lt (by omega)]
    · rw [List.getElem?_append_right (by simp; omega), List.getElem?_take, if_pos (by simp; omega)]
      simp only [List.length_drop]
      have e : (j + i) % ds.length = j + i - ds.length := by
        rw [Nat.mod_eq_sub_mod (by omega), Nat.mod_eq_of_lt (by omega)]
      rw [e]
      congr 1
      omega
  · rw [List.getElem?_eq_none (by simp; omega), List.getElem?_eq_none (by rw [rotL_length]; omega)]

/-- The deques as worker j has them, in a row of its own. -/
theorem concat_rot (w : World) (g n j B : Nat) (ds : List Nat) (c : Array Value) (hlen : ds.length = n) (hj : j < n) (hn : n ≤ 64) (hc : w.heap[g]? = some (.cells c 120 (0, 0))) (hcs : ∀ (i d : Nat), ds[i]? = some d → c[i]? = some (pd d))
    (hB0 : w.cell? ⟨B, 0, none⟩ = some (.slice (some ⟨g, j, none⟩) (n - j) (n - j))) (hB1 : w.cell? ⟨B, 1, none⟩ = some (.slice (some ⟨g, 0, none⟩) j n)) :
    Calls Tryz.prog 55 #[.slice (some ⟨B, 0, none⟩) 2 2] w fun e w' => ∃ gd cd : Nat, e = .returned (.slice (some ⟨gd, 0, none⟩) n cd) ∧ w.heap.size ≤ gd ∧ (∃ c fr, w'.heap[gd]? = some (.cells c 120 fr)) ∧ (∀ (i d : Nat), (rotL ds j)[i]? = some d → w'.cell? ⟨gd, i, none⟩ = some (.pointer (some ⟨d, 0, none⟩))) ∧ Turned [] w w' := by
  have hl := lt_of_heap hc
  refine (concat_dqs w B 2 [.slice (some ⟨g, j, none⟩) (n - j) (n - j), .slice (some ⟨g, 0, none⟩) j n] [ds.drop j, ds.take j] rfl (by simp) ?_ ?_ ?_).mono ?_
  · intro i v hv
    match i, hv with
    | 0, hv => simp at hv; subst hv; exact hB0
    | 1, hv => simp at hv; subst hv; exact hB1
  · intro i v hv
    match i, hv with
    | 0, hv =>
      simp at hv; subst hv
      refine ⟨_, rfl, .inr ⟨g, j, n - j, by simp [hlen], hl, fun i x hx => ?_⟩⟩
      rw [List.getElem?_drop] at hx
      rw [cell_of_heap hc]
      exact hcs _ _ hx
    | 1, hv =>
      simp at hv; subst hv
      refine ⟨_, rfl, .inr ⟨g, 0, n, by simp [hlen]; omega, hl, fun i x hx => ?_⟩⟩
      rw [List.getElem?_take] at hx
      split at hx
      · rw [Nat.zero_add, cell_of_heap hc]
        exact hcs _ _ hx
      · cases hx
  · intro l hl
    simp at hl
    rcases hl with rfl | rfl <;> simp <;> omega
  · rintro e w' ⟨v, rfl, ⟨m, ho⟩, t⟩
    rw [rotL_split (by omega)] at ho
    have hm : m = n := by
      have := ho.1
      simp [rotL_length] at this
      omega
    subst hm
    rcases ho.2 with ⟨_, h0⟩ | ⟨gd, cap, cur, rfl, hg, hh, h1, h2, h3, h4⟩
    · omega
    · refine ⟨gd, cap, rfl, hg, ⟨_, _, hh⟩, fun i d hi => ?_, t⟩
      have hil : i < m := by
        have := (List.getElem?_eq_some_iff.1 hi).1
        rw [rotL_length] at this
        omega
      have h5 : (cur.toList.take (m * 1))[i]? = some (pd d) := by rw [h4, List.getElem?_map, hi]; rfl
      rw [List.getElem?_take, if_pos (by omega)] at h5
      rw [cell_of_heap hh, ← Array.getElem?_toList]
      exact h5

theorem Tryz.infoWk : (Tryz.prog.info? 77).map (fun i => (i.zero, i.size, i.bytes)) = some (some (.pointer none), 1, 8) := by kernel_rfl
/-- A worker is put behind those that are: an append as an operation by itself. -/
theorem wp_append_ws (w : World) {o : Oper} {a : Act} {K : Act → World → Prop} {Q : Exit → Act → World → Prop} (s x : Operand)
    (ho : o.op = .call { callee := .builtin .append, args := #[s, x], argTypes := #[81, 81] }) (base : Nat) (hb : base ≤ w.heap.size) (vw : Value) (T : List Nat) (b : Nat) (hs : a.eval s = vw) (h : w.ownsRow base 77 1 vw T.length (T.map pd)) (sb : Nat) (hx : a.eval x = .slice (some ⟨sb, 0, none⟩) 1 1) (hX : w.cell? ⟨sb, 0, none⟩ = some (pd b)) (hbd : T.length ≤ 2000000)
    (hK : ∀ g cap w', w'.ownsRow base 77 1 (.slice (some ⟨g, 0, none⟩) (T.length + 1) cap) (T ++ [b]).length ((T ++ [b]).map pd) → Turned vw.ownBlock.toList w w' → K (a.put o.dst (.slice (some ⟨g, 0, none⟩) (T.length + 1) cap)) w') : o.wp Tryz.prog a w K Q := by
  have und : Tryz.prog.underlying 81 = some (.slice 77) := by kernel_rfl
  obtain ⟨i2, hi2, hi0⟩ := Option.map_eq_some_iff.1 Tryz.infoWk
  simp only [Prod.mk.injEq] at hi0
  obtain ⟨hy0, hy1, hy2⟩ := hi0
  obtain ⟨v', w', hr, h2, h3, h4, h5⟩ := run_append_own_at (P := Tryz.prog) w base 81 o.type 77 i2 _ 1 8 und hi2 hy0 hy1 hy2 rfl (by decide) vw T.length (T.map pd) h ⟨sb, 0, none⟩ 1 1 [pd b] rfl (fun j u hu => by
      have hj : j = 0 := by have := (List.getElem?_eq_some_iff.1 hu).1; simp at this; omega
      subst hj
      simp at hu
      subst hu
      exact hX) (by intro u hu; simp at hu; subst hu; rfl) (by unfold maxLen; omega) (by omega) hb
  have h2' := h2
  rcases h2'.2 with ⟨_, h0⟩ | ⟨g, cap, cur, rfl, _⟩
  · omega
  · unfold Oper.wp execOp
    simp only [ho, resolve, invoke, builtin, Sem.run_bind, Sem.run_pure, Result.andThen_ok, List.map_toArray, List.map_cons, List.map_nil, hs, hx, hr]
    refine hK g cap w' ?_ ((Turned.refl _ _).grown h3 (fun k hk => .inl (by simp [hk])))
    simpa using h2

/-- A new worker: nothing in hands, nothing kept. -/
def Fw (wb w : World) (M : Nat) (ds : List Nat) (i b : Nat) : Prop :=
  wb.heap.size ≤ b ∧ ∃ gd cd, WmR w b (mwCells .choose b M gd ds.length cd (.slice none 0 0) (.slice none 0 0) Blk.zero (.slice none 0 0) 0 none 0 none 0 false) ∧ (∃ c fr, w.heap[gd]? = some (.cells c 120 fr)) ∧ ∀ (i' d : Nat), (rotL ds i)[i']? = some d → w.cell? ⟨gd, i', none⟩ = some (.pointer (some ⟨d, 0, none⟩))
theorem Fw.turned {wb w w' : World} {M : Nat} {ds : List Nat} {i b : Nat} (h : Fw wb w M ds i b) {S : List Nat} (t : Turned S w w') (h1 : Off w S 88) (h2 : Off w S 120) : Fw wb w' M ds i b := by
  obtain ⟨h0, gd, cd, hr, ⟨c, fr, hc⟩, hrow⟩ := h
  have n1 := h1.not hr
  have n2 := h2.not hc
  exact ⟨h0, gd, cd, hr.turned t n1, ⟨c, fr, t.at hc n2⟩, fun i' d hd => by rw [t.cell (p := ⟨gd, i', none⟩) (lt_of_heap hc) n2]; exact hrow i' d hd⟩

/-- New's loop: those workers that are made. -/
structure Nw (M : Nat) (m0 m1 m2 : Value) (ds : List Nat) (wb w : World) (ws : List Nat) (vw : Value) : Prop where
  tu : Turned [M] wb w
  lt : M < wb.heap.size
  mkr : MkR w M #[m0, m1, m2, vw, .int .i64 0, .int .i64 0]
  own : w.ownsRow wb.heap.size 77 1 vw ws.length (ws.map pd)
  wk : ∀ (i b : Nat), ws[i]? = some b → Fw wb w M ds i b
  nd : ∀ (i j b : Nat), ws[i]? = some b → ws[j]? = some b → i = j
section
variable {M : Nat} {m0 m1 m2 : Value} {ds : List Nat} {wb w : World} {ws : List Nat} {vw : Value}
/-- One more. w1: ahead of the append (worker b and its row are there); w3: behind it. -/
theorem Nw.more (h : Nw M m0 m1 m2 ds wb w ws vw) {w1 w3 : World} {b gd cd g cap : Nat} (t1 : Turned [] w w1)
    (hb : w.heap.size ≤ b) (hraw : WmR w1 b (mwCells .choose b M gd ds.length cd (.slice none 0 0) (.slice none 0 0) Blk.zero (.slice none 0 0) 0 none 0 none 0 false)) (hgd : ∃ c fr, w1.heap[gd]? = some (.cells c 120 fr)) (hrow : ∀ (i' d : Nat), (rotL ds ws.length)[i']? = some d → w1.cell? ⟨gd, i', none⟩ = some (.pointer (some ⟨d, 0, none⟩)))
    (hown : w3.ownsRow wb.heap.size 77 1 (.slice (some ⟨g, 0, none⟩) (ws.length + 1) cap) (ws ++ [b]).length ((ws ++ [b]).map pd)) (t3 : Turned vw.ownBlock.toList w1 w3) :
    Nw M m0 m1 m2 ds wb (w3.setCell ⟨M, 3, none⟩ (.slice (some ⟨g, 0, none⟩) (ws.length + 1) cap)) (ws ++ [b]) (.slice (some ⟨g, 0, none⟩) (ws.length + 1) cap) := by
  have hV : ∀ e, 77 ≠ e → Off w1 vw.ownBlock.toList e := fun e he z hz c fr g1 => by
    simp only [Option.mem_toList] at hz
    obtain ⟨_, hl, c2, hc2⟩ := ownsRow_lt h.own z hz
    rw [t1.at hc2 (by simp)] at g1
    cases g1
    exact he rfl
  have mk1 : MkR w1 M _ := t1.at h.mkr (by simp)
  have mk3 : MkR w3 M _ := t3.at mk1 ((hV _ (by decide)).not mk1)
  have t4 : Turned [M] w3 (w3.setCell ⟨M, 3, none⟩ (.slice (some ⟨g, 0, none⟩) (ws.length + 1) cap)) := (Turned.refl _ _).setCell (by simp) _
  have hM : ∀ e, 83 ≠ e → Off w3 [M] e := fun e he => Off.one mk3 he
  have hF : ∀ i c, Fw wb w1 M ds i c → Fw wb (w3.setCell ⟨M, 3, none⟩ (.slice (some ⟨g, 0, none⟩) (ws.length + 1) cap)) M ds i c := fun i c hc =>
    (hc.turned t3 (hV _ (by decide)) (hV _ (by decide))).turned t4 (hM _ (by decide)) (hM _ (by decide))
  have hwb := h.tu.size
  have hlt : ∀ i c, ws[i]? = some c → c < w.heap.size := fun i c hc => by
    obtain ⟨_, gd, cd, hr, _⟩ := h.wk i c hc
    exact hr.lt
  refine ⟨?_, h.lt, ?_, ?_, fun i c hc => ?_, fun i j c hi hj => ?_⟩
  · refine ((h.tu.trans (t1.mono (by simp))).trans_new t3 (fun z hz => .inr ?_)).trans t4
    simp only [Option.mem_toList] at hz
    exact (ownsRow_lt h.own z hz).1
  · exact heap_setCell_at w3 M 3 _ _ _ mk3 (.slice (some ⟨g, 0, none⟩) (ws.length + 1) cap)
  · refine ownsRow_keep hown (fun k hk => t4.block k (ownsRow_lt hown k hk).2.1 ?_)
    obtain ⟨_, _, c2, hc2⟩ := ownsRow_lt hown k hk
    exact (hM _ (by decide)).not hc2
  · rw [List.getElem?_append] at hc
    split at hc
    · exact hF i c ((h.wk i c hc).turned t1 (fun z hz => by simp at hz) (fun z hz => by simp at hz))
    · rename_i hil
      have hij : i = ws.length := by
        have := (List.getElem?_eq_some_iff.1 hc).1
        simp at this
        omega
      subst hij
      simp at hc
      subst hc
      exact hF _ _ ⟨by omega, gd, cd, hraw, hgd, hrow⟩
  · have hcase : ∀ i c, (ws ++ [b])[i]? = some c → ws[i]? = some c ∨ (i = ws.length ∧ c = b) := fun i c hc => by
      rw [List.getElem?_append] at hc
      split at hc
      · exact .inl hc
      · rename_i hil
        have hij : i = ws.length := by
          have := (List.getElem?_eq_some_iff.1 hc).1
          simp at this
          omega
        subst hij
        simp at hc
        exact .inr ⟨rfl, hc.symm⟩
    rcases hcase i c hi with h1 | ⟨h1, h2⟩ <;> rcases hcase j c hj with h3 | ⟨h3, h4⟩
    · exact h.nd i j c h1 h3
    · subst h4
      have := hlt i c h1
      omega
    · subst h2
      have := hlt j c h3
      omega
    · omega
/-- What a marker has ahead of its first step. -/
def MS.fresh (l : List Int) (sz : Nat → Nat) (hs cs : Int) : MS := ⟨l, sz, fun _ => ⟨.choose, [], [], [], 0, false⟩, 0, hs, cs⟩
/-- All are made. w0: ahead of New; wb: ahead of the loop. -/
theorem Nw.whole {P : MP} {w0 : World} {ph qh pb qb a p q len cp cw gw : Nat} {co : Option Addr} {l : List Int} {sz : Nat → Nat} {hs cs : Int} {cM : Array Value}
    (h : Nw M (.iface 114 (mv ph co len cp)) (.pointer (some ⟨pb, 0, none⟩)) (.pointer (some ⟨a, 0, none⟩)) ds wb w ws (.slice (some ⟨gw, 0, none⟩) P.n cw))
    (hn : ws.length = P.n) (hd : ds.length = P.n) (hP : 1 ≤ P.n ∧ P.n ≤ 4) (t0 : Turned [ph, qh, qb, p, q] w0 wb) (hM : w0.heap.size ≤ M) (h0 : 0 < w0.heap.size) (h5 : 0 ∉ [ph, qh, qb, p, q]) (hMb : MkR wb M cM)
    (hhm : Mem wb ph qh P.hw hs) (hhl : P.hw.length ≤ 65536) (hcl : CRow wb co len P.cl) (hbt : Bt.Bts wb pb qb P.hw.length (Bt.sidesOf sz)) (hbl : Bt.Bl P.hw.length sz) (hsh : Sh wb a p q ds (P.Q 0) l cs) (hne : ph ≠ p ∧ qh ≠ q) :
    Mk P ⟨M, ph, qh, len, cp, co, pb, qb, a, gw, P.n, cw, p, q, 0⟩ w0 w ds ws (MS.fresh l sz hs cs) (fun _ => []) := by
  have oM : ∀ e, 83 ≠ e → Off wb [M] e := fun e he => Off.one hMb he
  have t := h.tu
  have hM0 : 0 ∉ [M] := by simp; omega
  have hsz := t0.size
  have hown := h.own
  rw [hn] at hown
  obtain ⟨_, hlo⟩ := h.own
  obtain ⟨cur, hgw, htk⟩ : ∃ cur, w.heap[gw]? = some (.cells cur 77 (0, 0)) ∧ cur.toList.take (ws.length * 1) = ws.map pd := by
    rcases hlo with ⟨h1, h2⟩ | ⟨g, cap, cur, e, hg, hh, h1, h2, h3, h4⟩
    · cases h1
    · have e2 : gw = g := by
        simp only [Value.slice.injEq, Option.some.injEq, Addr.mk.injEq] at e
        exact e.1.1
      subst e2
      exact ⟨cur, hh, h4⟩
  refine ⟨t0.trans_new t (fun y hy => by simp at hy; subst hy; exact .inr hM), ⟨hn, hd, hP.1, hP.2, rfl⟩, ⟨_, _, hgw⟩, fun i b hb => ?_, h.mkr, hhm.turned t ((oM _ (by decide)).not hhm.head) ((oM _ (by decide)).not hhm.row), hhl, hcl.off t (oM _ (by decide)), Bts.off hbt t (oM _ (by decide)) (oM _ (by decide)) hM0, hbl, hsh.off t (oM _ (by decide)) (oM _ (by decide)) ((oM _ (by decide)).not hsh.mem.head) ((oM _ (by decide)).not hsh.mem.row), fun i b hb => ?_, h.nd, fun i j y _ _ hy => by simp at hy, ⟨hne.1, hne.2, fun i _ => by simp⟩, h0, h5, fun i b hb y hy => ?_⟩
  · have h5 : (cur.toList.take (ws.length * 1))[i]? = some (pd b) := by rw [htk, List.getElem?_map, hb]; rfl
    have hil := (List.getElem?_eq_some_iff.1 hb).1
    rw [List.getElem?_take, if_pos (by omega)] at h5
    rw [cell_of_heap hgw, ← Array.getElem?_toList]
    exact h5
  · obtain ⟨_, gd, cd, hr, hc, hrow⟩ := h.wk i b hb
    rw [← rotL_length ds i] at hr
    exact ⟨gd, cd, .slice none 0 0, .slice none 0 0, .slice none 0 0, [], [], [], .choose, Blk.zero, 0, none, 0, none, rfl, hr, hc, hrow, .inl ⟨rfl, rfl, rfl⟩, World.ownsRow_nil _ _ _ _, .inl ⟨rfl, rfl, rfl⟩, rfl, rfl⟩
  · have h6 := (h.wk i b hb).1
    simp at hy
    rcases hy with rfl | rfl
    · exact hM
    · omega
end
end Go.Proofs.YtgbclfhgpkmcnaaGreatDoor

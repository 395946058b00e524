/-
  Texts of the proof, several in one: BlocksReachD.
-/
import Derived.Test.YtgbclfhgpkmcnaaGreatDoorPack1
import Derived.Test.YtgbclfhgpkmcnaaGreatDoorPack14
import Derived.Test.YtgbclfhgpkmcnaaGreatDoorPack26
import Derived.ArgAppend
import Derived.Deep.AppendSrc
import Derived.Lib.JoinLaws
import Derived.Laws.AppendOwnNone
import Derived.Deep.LoopGhost
/-
  The document's Reach, walked: what it tells is what roots lead to ('Reaches'), as the program's.
-/
namespace Go.Proofs.YtgbclfhgpkmcnaaGreatDoor
open Go.RowKit
set_option linter.unusedVariables false

/-- The words ahead: a slice of the call's own, with an offset. -/
def Todo (B : Nat) (w : World) (v : Value) (T : List Int) : Prop :=
  (v = .slice none 0 0 ∧ T = []) ∨ ∃ g off cap c, v = .slice (some ⟨g, off, none⟩) T.length cap ∧ B ≤ g ∧ w.heap[g]? = some (.cells c 2 (0, 0)) ∧ T.length ≤ cap ∧ off + cap ≤ c.size ∧ ∀ (i : Nat) x, T[i]? = some x → w.cell? ⟨g, off + i, none⟩ = some (.int .i64 x)

theorem Todo.keep {B : Nat} {w w' : World} {v : Value} {T : List Int} (h : Todo B w v T) {S : List Nat} (t : Turned S w w') (hS : ∀ k, k ∈ S → ∃ c e fr, w.heap[k]? = some (.cells c e fr) ∧ e ≠ 2) : Todo B w' v T := by
  rcases h with h | ⟨g, off, cap, c, h1, h2, h3, h4, h5, h6⟩
  · exact .inl h
  · have hg : g ∉ S := fun hg => by
      obtain ⟨c2, e, fr, a1, a2⟩ := hS g hg
      exact ne_of_type a1 h3 a2 rfl
    exact .inr ⟨g, off, cap, c, h1, h2, by rw [t.block g (lt_of_heap h3) hg]; exact h3, h4, h5, fun i x hx => by rw [t.cell (p := ⟨g, off + i, none⟩) (lt_of_heap h3) hg]; exact h6 i x hx⟩

theorem Todo.of {B : Nat} {w : World} {v : Value} {n : Nat} {T : List Int} (h : w.ownsRow B 2 1 v n (T.map (Value.int .i64))) : Todo B w v T := by
  have hl : T.length = n := by simpa using h.1
  rcases h.2 with ⟨hv, h0⟩ | ⟨g, cap, cur, hv, hg, hh, hc, _, hsz, ht⟩
  · exact .inl ⟨hv, List.eq_nil_of_length_eq_zero (by omega)⟩
  · refine .inr ⟨g, 0, cap, cur, by rw [hv, hl], hg, hh, by omega, by simp at hsz; omega, fun i x hx => ?_⟩
    rw [Nat.zero_add, cell_of_heap hh]
    have h1 : (T.map (Value.int .i64))[i]? = some (.int .i64 x) := by rw [List.getElem?_map, hx]; rfl
    rw [← ht, List.getElem?_take] at h1
    split at h1
    · simpa using h1
    · cases h1

theorem heap_setCells_at {e : TypeId} {fr : Nat × Nat} (b : Nat) (vs : List Value) : ∀ (o : Nat) (w : World) (c : Array Value), w.heap[b]? = some (.cells c e fr) → ∃ c', (w.setCells b o vs).heap[b]? = some (.cells c' e fr) ∧ c'.size = c.size := by
  induction vs with
  | nil => intro o w c h; exact ⟨c, h, rfl⟩
  | cons v vs ih =>
    intro o w c h
    obtain ⟨c', h1, h2⟩ := ih (o + 1) (w.setCell ⟨b, o, none⟩ v) _ (heap_setCell_at w b o c e fr h v)
    exact ⟨c', h1, by rw [h2]; simp⟩
theorem turned_setCells {S : List Nat} {a w : World} (h : Turned S a w) (b o : Nat) (vs : List Value) (hb : b ∈ S ∨ a.heap.size ≤ b) : Turned S a (w.setCells b o vs) := by
  induction vs generalizing o w with
  | nil => exact h
  | cons v vs ih => exact ih (h.setCell (p := ⟨b, o, none⟩) hb v) (o + 1)

/-- Words are put behind the words ahead. -/
theorem todo_append {B B2 : Nat} (w : World) {ops : Array Oper} {rest : List Oper} {o : Oper} {a : Act} {Q : Exit → Act → World → Prop} (hg : o.guard = none) (s x : Operand) (hop : o.op = Op.call { callee := .builtin .append, args := #[s, x], argTypes := #[30, 30] })
    (gb off cp : Nat) (c : Array Value) (T X : List Int) (m : Nat) (v2 : Value) (hs : a.eval s = .slice (some ⟨gb, off, none⟩) T.length cp) (hx : a.eval x = v2) (hB : B ≤ gb) (hBw : B ≤ w.heap.size) (hh : w.heap[gb]? = some (.cells c 2 (0, 0))) (hcp : T.length ≤ cp) (hsz : off + cp ≤ c.size) (hT : ∀ (i : Nat) y, T[i]? = some y → w.cell? ⟨gb, off + i, none⟩ = some (.int .i64 y))
    (hown : w.ownsRow B2 2 1 v2 m (X.map (Value.int .i64))) (hbd : (T.length + X.length) * 8 ≤ 140737488355328)
    (hK : ∀ v' w', Todo B w' v' (T ++ X) → Turned [gb] w w' → wpList Tryz.prog ops Q rest (a.put o.dst v') w') : wpList Tryz.prog ops Q (o :: rest) a w := by
  obtain ⟨i2, hi2, hy0, hy1, hy2⟩ := info_parts Tryz.info2
  have hm : X.length = m := by simpa using hown.1
  have hroomT : ∀ (vs : List Int), T.length + vs.length ≤ cp → Todo B (w.setCells gb (off + T.length) (vs.map (Value.int .i64))) (.slice (some ⟨gb, off, none⟩) (T.length + vs.length) cp) (T ++ vs) := by
    intro vs hv
    obtain ⟨c', h1, h2⟩ := heap_setCells_at gb (vs.map (Value.int .i64)) (off + T.length) w c hh
    refine .inr ⟨gb, off, cp, c', by rw [List.length_append], hB, h1, by rw [List.length_append]; exact hv, by omega, fun i y hy => ?_⟩
    rw [List.getElem?_append] at hy
    split at hy
    · rename_i hi
      rw [World.cell?_setCells_out _ _ _ _ _ (fun _ _ => .inl (by show off + i < off + T.length; omega))]
      exact hT i y hy
    · rename_i hi
      have hj : i - T.length < vs.length := (List.getElem?_eq_some_iff.1 hy).1
      have hin := World.cell?_setCells_in gb (vs.map (Value.int .i64)) (off + T.length) w (fun j hj => by
        rw [cell_of_heap hh]
        simp at hj
        rw [Array.getElem?_eq_getElem (by omega)]
        rfl) (i - T.length) (by simpa using hj)
      rw [show off + T.length + (i - T.length) = off + i by omega] at hin
      rw [hin]
      simp [List.getElem?_eq_some_iff.1 hy |>.2]
  rcases hown.2 with ⟨hv, h0⟩ | ⟨g2, c2, cur, hv, _, hh2, hc2, _, _, ht⟩
  · subst hv
    have hX : X = [] := List.eq_nil_of_length_eq_zero (by omega)
    subst hX
    refine wpList_append_room_src w hg s x 30 30 hop 2 i2 Tryz.underlying30 hi2 gb off T.length cp hs _ hx 0 [] (Src.ofNil w Tryz.underlying30 0) (by omega) (fun j hj => by simp at hj) (fun j hj => by simp at hj) ?_
    have h1 := hroomT [] (by simpa using hcp)
    have h2 := hK _ _ h1 (turned_setCells (Turned.refl _ _) _ _ _ (by simp))
    rw [hy1, Nat.mul_one]
    exact h2
  · subst hv
    have hnews : ∀ j u, (X.map (Value.int .i64))[j]? = some u → w.cell? (Addr.add ⟨g2, 0, none⟩ j) = some u := fun j u hu => by
      rw [show Addr.add ⟨g2, 0, none⟩ j = ⟨g2, j, none⟩ by simp [Addr.add]; intro h; exact h.symm, cell_of_heap hh2]
      rw [← ht, List.getElem?_take] at hu
      split at hu
      · simpa using hu
      · cases hu
    refine wpList_append_arg w hg s x 30 hop 2 i2 _ 1 8 Tryz.underlying30 hi2 hy0 hy1 hy2 rfl (by decide) gb off T.length cp (T.map (Value.int .i64)) hs (by simp) (fun j u hu => ?_) ⟨g2, 0, none⟩ m c2 (X.map (Value.int .i64)) hx (by simp [hm]) hnews (fun u hu => by obtain ⟨y, _, rfl⟩ := List.mem_map.1 hu; rfl) (fun hr j hj => ?_) (by unfold maxLen; omega) (by omega) (fun hr => ?_) (fun hr v' w' h1 h2 => ?_)
    · rw [List.getElem?_map] at hu
      obtain ⟨y, hy, rfl⟩ := Option.map_eq_some_iff.1 hu
      exact hT j y hy
    · simp at hj
      refine ⟨?_, by simp [World.frozen?, hh]⟩
      rw [cell_of_heap hh, Array.getElem?_eq_getElem (by omega)]
      rfl
    · rw [Nat.mul_one, ← hm]
      exact hK _ _ (hroomT X (by omega)) (turned_setCells (Turned.refl _ _) _ _ _ (by simp))
    · rw [← List.map_append] at h1
      have h3 := ownsRow_mono h1 hBw
      exact hK _ _ (Todo.of h3) ((Turned.refl _ _).grown h2 (fun k hk => by cases hk))

/-- What was reached: block q. -/
def RcB (w : World) (q : Nat) (R : List Bool) : Prop := w.heap[q]? = some (.cells (R.map Value.bool).toArray 4)
theorem RcB.at {w : World} {q : Nat} {R : List Bool} (h : RcB w q R) {i : Nat} {r : Bool} (hr : R[i]? = some r) : w.cell? ⟨q, i, none⟩ = some (.bool r) := by
  rw [cell_of_heap h]; simp [hr]
theorem RcB.fz {w : World} {q : Nat} {R : List Bool} (h : RcB w q R) (i : Nat) : w.frozen? ⟨q, i, none⟩ = false := by
  unfold RcB at h; simp [World.frozen?, h]
theorem RcB.set {w : World} {q : Nat} {R : List Bool} (h : RcB w q R) (i : Nat) : RcB (w.setCell ⟨q, i, none⟩ (.bool true)) q (R.set i true) := by
  unfold RcB
  rw [heap_setCell_at _ _ _ _ _ _ h, List.map_set]
  simp
theorem RcB.turned {w w' : World} {q : Nat} {R : List Bool} (h : RcB w q R) {S : List Nat} (t : Turned S w w') (hq : q ∉ S) : RcB w' q R := by
  unfold RcB
  rw [t.block q (lt_of_heap h) hq]
  exact h

theorem made_bools (m : Nat) : madeCells #[Value.bool false] m = ((List.replicate m false).map Value.bool).toArray := by
  apply Array.ext
  · simp [madeCells]
  · intro i h1 h2
    simp [madeCells, Nat.mod_one]

set_option maxHeartbeats 4000000 in
set_option maxRecDepth 100000 in
theorem rreach_in (d : Nat) (l : List Int) (ao : Option Addr) (len cap : Nat) (cs : List Cls) (f g : Int) (ro : Option Addr) (rn rcap : Nat) (rs : List Int) (bs : List Blk) (w : World)
    (hl : l.length ≤ 65536) (hl64 : ∀ x, x ∈ l → In64 x) (hv : Doc w d l) (hc : CRd w ao len cs) (hr : IRd w ro rn rs) (hw : 0 ≤ f ∧ f ≤ g ∧ g ≤ l.length) (h : walkOf l cs g f = some bs)
    (hro : ro = none → rn = 0 ∧ rcap = 0) (hm : (rs.length + leftOf (refWords l cs) bs (List.replicate bs.length false)) * 8 ≤ 140737488355328) :
    Calls Tryz.prog 36 #[.slice (some ⟨d, 0, none⟩) l.length l.length, .slice ao len cap, .int .i64 f, .int .i64 g, .slice ro rn rcap] w (Reaches bs (refWords l cs) rs w) := by
  have HW := hide (rwalk_in d l ao len cap cs f g w hl hv hc hw)
  have hF := walkOf_facts hw.2.1 h
  rw [h] at HW
  simp only [Option.isNone_some, Option.getD_some] at HW
  rw [if_neg (by decide)] at HW
  have hbl : bs.length ≤ 65536 := by have := hF.few; omega
  have HM2 := hide hm
  have HFa := hide hF
  have HV := hide hv
  have HL64 := hide hl64
  have HC := hide hc
  have HR := hide hr
  have und : Tryz.prog.underlying 128 = some (.slice 4) := by kernel_rfl
  have hmk := run_make_row' (P := Tryz.prog) 128 4 (.bool false) 1 und Tryz.infoBool rfl .i64 .i64 bs.length (by omega) (by omega)
  obtain ⟨i2, hi2, hy0, hy1, hy2⟩ := info_parts Tryz.info2
  obtain ⟨i0, hi, hz0, hz1, hz2⟩ := info_parts Tryz.infoInt
  obtain ⟨Q, hQ⟩ : ∃ Q, Q = Reaches bs (refWords l cs) rs w := ⟨_, rfl⟩
  rw [← hQ]
  have HQ := hide hQ
  clear hv hc hw h hF hr hQ hm hl64
  go_enter Tryz.func36, Tryz.ntmps36
  go_wp2_with fail
  refine HW.out.mono ?_
  rintro e w1 ⟨v1, rfl, hown, ht1⟩
  obtain ⟨bo, bcap, rfl, hbr⟩ := ownsRow_blks hown
  have HBr := hide hbr
  have HT1 := hide ht1
  clear hown ht1 hbr HW
  -- roots are copied: both ways meet in one world
  have HAp : Hid (∀ {ops : Array Oper} {rest : List Oper} {o : Oper} {a : Act} {Q : Exit → Act → World → Prop} (w2 : World), Turned [] w w2 → o.guard = none → ∀ s x : Operand, o.op = Op.call { callee := .builtin .append, args := #[s, x], argTypes := #[30, 30] } → a.eval s = .slice none 0 0 → a.eval x = .slice ro rn rcap →
      (∀ v' w', Todo w2.heap.size w' v' rs → Turned [] w2 w' → wpList Tryz.prog ops Q rest (a.put o.dst v') w') → wpList Tryz.prog ops Q (o :: rest) a w2) := by
    intro ops rest o a Q w2 hT hg s x hop hs hx hk
    cases ro with
    | none =>
      obtain ⟨rfl, rfl⟩ := hro rfl
      have hnil : rs = [] := List.eq_nil_of_length_eq_zero (by have := HR.out.size; omega)
      refine wpList_append_own_none hg s x 30 hop w2.heap.size 2 i2 1 Tryz.underlying30 hi2 (.slice none 0 0) 0 [] hs (World.ownsRow_nil _ _ _ _) hx ?_
      exact hk _ _ (.inl ⟨rfl, hnil⟩) (Turned.refl _ _)
    | some ad =>
      refine wpList_append_own w2 hg s x 30 hop w2.heap.size 2 i2 _ 1 8 Tryz.underlying30 hi2 hy0 hy1 hy2 rfl (by decide) _ 0 [] hs (World.ownsRow_nil _ _ _ _) ad rn rcap (rs.map (Value.int .i64)) hx (by simp [HR.out.size]) ?_ (fun u hu => by obtain ⟨y, _, rfl⟩ := List.mem_map.1 hu; rfl) ?_ ?_ (Nat.le_refl _) ?_
      · intro j u hu
        rw [List.getElem?_map] at hu
        obtain ⟨y, hy, rfl⟩ := Option.map_eq_some_iff.1 hu
        obtain ⟨gb, off, e, hcell⟩ := HR.out.cell j y hy
        cases e
        rw [show Addr.add ⟨gb, off, none⟩ j = ⟨gb, off + j, none⟩ by simp [Addr.add], hT.cell (p := ⟨gb, off + j, none⟩) (block_lt hcell) (by simp)]
        exact hcell
      · have := HM2.out; have := HR.out.size; unfold maxLen; omega
      · have := HM2.out; have := HR.out.size; omega
      · intro v' w' hown hgr _
        simp only [Nat.zero_add, List.nil_append] at hown
        exact hk v' w' (Todo.of hown) ((Turned.refl _ _).grown hgr (fun k hk => by simp [Value.ownBlock] at hk))
  go_wp2_with (at_builtin; (refine HAp.out _ ((HT1.out).alloc _) rfl _ _ rfl rfl rfl ?_); intro v' w3 htodo ht3)
  have hsA : (w1.alloc (.cells (madeCells #[Value.bool false] bs.length) 4)).heap.size = w1.heap.size + 1 := by simp
  have HRB0 : Hid (RcB w3 w1.heap.size (List.replicate bs.length false)) := by
    have h1 : RcB (w1.alloc (.cells (madeCells #[Value.bool false] bs.length) 4)) w1.heap.size (List.replicate bs.length false) := by
      unfold RcB; rw [heap_alloc_new, made_bools]
    exact h1.turned ht3 (by simp)
  rw [hsA] at htodo
  have HTd0 := hide htodo
  have HT3 := hide (((Turned.refl [] w1).alloc (.cells (madeCells #[Value.bool false] bs.length) 4)).trans ht3)
  have HS3 := hide (show w1.heap.size + 1 ≤ w3.heap.size from by have := ht3.size; omega)
  clear htodo ht3 hsA HAp hmk und hi2 hy0 hy1 hy2
  generalize hN0 : leftOf (refWords l cs) bs (List.replicate bs.length false) = N0 at *
  go_loopg [15] (rs.length + N0) (fun gk s15 wr => ∃ (T : List Int) (R : List Bool) (v : Value), v = s15 ∧ T.length + leftOf (refWords l cs) bs R ≤ gk ∧ Aside (T.length + leftOf (refWords l cs) bs R ≤ rs.length + N0) ∧ Aside (Todo (w1.heap.size + 1) wr v T) ∧ Aside (RcB wr w1.heap.size R) ∧ Aside (RInv bs (refWords l cs) rs T R) ∧ Aside (Turned [] w1 wr) ∧ Aside (w1.heap.size + 1 ≤ wr.heap.size))
  case atStart => exact ⟨rs, _, _, rfl, by rw [hN0]; exact Nat.le_refl _, by show _ ≤ _; rw [hN0]; exact Nat.le_refl _, HTd0.out, HRB0.out, rinv_new _ _ _, HT3.out, HS3.out⟩
  case round =>
    clear HTd0 HRB0 HT3 HS3 hN0
    obtain ⟨T, R, v, rfl, hgk, hbnd, htd, hrb, hinv, htu, hsz⟩ := hrel
    cases T with
    | nil =>
      obtain ⟨ao2, cap2, hv2⟩ : ∃ ao2 cap2, v = .slice ao2 0 cap2 := by
        rcases htd.out with ⟨h0, _⟩ | ⟨gb, off, cp, c, h1, _⟩
        · exact ⟨_, _, h0⟩
        · exact ⟨_, _, h1⟩
      subst hv2
      have hend := hinv.out.ends HFa.out.apart
      have hta := told_addrs hinv.out.len HFa.out.apart
      have HEnd := hide hend
      have HTa := hide hta
      have HRl := hide hinv.out.len
      have HRb := hide hrb.out
      have HTu := hide htu.out
      have HB9 := hide (HBr.out.turned htu.out)
      clear hend hta hgk hbnd htd hrb hinv htu hsz
      obtain ⟨wb, hwb⟩ : ∃ wb, wb = wr := ⟨_, rfl⟩
      subst hwb
      go_wp2_with fail
      go_loopg [18, 19] (bs.length + 1) (fun gk s18 s19 wr => ∃ (k : Nat) (v : Value), v = s18 ∧ s19 = .int .i64 (k : Int) ∧ k ≤ bs.length ∧ bs.length - k ≤ gk ∧ Aside (wr.ownsRow wb.heap.size 3 1 v (toldTo (bs.take k) (R.take k)).length ((toldTo (bs.take k) (R.take k)).map (Value.int .i64))) ∧ Aside (Turned [] wb wr) ∧ Aside (wb.heap.size ≤ wr.heap.size))
      case atStart => exact ⟨0, _, rfl, rfl, by omega, by omega, World.ownsRow_nil _ _ _ _, Turned.refl _ _, Nat.le_refl _⟩
      case round =>
        obtain ⟨k, v, rfl, rfl, hk, hgk, hrow, htk, hsk⟩ := hrel
        by_cases hkb : k < bs.length
        · have e1 : (k : Int) < (bs.length : Int) := by omega
          obtain ⟨b, hb⟩ : ∃ b, bs[k]? = some b := ⟨bs[k], by simp [hkb]⟩
          obtain ⟨q, hq⟩ : ∃ q, R[k]? = some q := ⟨R[k]'(by rw [HRl.out]; exact hkb), by simp⟩
          have hrc : wr.cell? ⟨w1.heap.size, k, none⟩ = some (.bool q) := by rw [htk.out.cell (p := ⟨w1.heap.size, k, none⟩) (lt_of_heap HRb.out) (by simp)]; exact HRb.out.at hq
          have HNx := hide (told_take bs R k b q hb hq)
          obtain ⟨bg, boff, rfl, b0, _⟩ := (HB9.out.turned htk.out).cell k b hb
          have hkl : (toldTo (bs.take k) (R.take k)).length ≤ k := by
            have : ∀ (x : List Blk) (y : List Bool), (toldTo x y).length ≤ x.length := by
              intro x
              induction x with
              | nil => intro y; simp [toldTo]
              | cons c x ih => intro y; cases y with
                | nil => simp [toldTo]
                | cons r y => have := ih y; cases r <;> simp [toldTo] <;> omega
            exact Nat.le_trans (this _ _) (by simp; omega)
          generalize toldTo (bs.take k) (R.take k) = tk at *
          clear hb hq
          cases q with
          | false =>
            go_wp2_with fail
            go_roundg (bs.length - (k + 1))
            case measure => omega
            case rel => exact ⟨k + 1, _, rfl, by go_num, by omega, Nat.le_refl _, by rw [HNx.out]; simp only [Bool.false_eq_true, if_false, List.append_nil]; exact hrow.out, htk.out, hsk.out⟩
          | true =>
            have HRow := hide hrow.out
            go_wp2_with (at_builtin; (refine wpList_append_own _ rfl _ _ 25 rfl wb.heap.size 3 i0 _ 1 8 Tryz.underlying25 hi hz0 hz1 hz2 rfl (by decide) _ _ _ rfl (World.ownsRow.alloc HRow.out _) ⟨wr.heap.size, 0, none⟩ 1 1 [.int .i64 b.t] rfl rfl (cells_new _ _ _ _ rfl) (ints_oneCell .i64 [b.t]) (by unfold maxLen; omega) (by omega) (by have := hsk.out; simp; omega) ?_); intro v5 w5 hown5 hgrow5 hnil5)
            have HO5 := hide hown5
            have HG5 := hide hgrow5
            have HTY := hide (ownsRow_lt (World.ownsRow.alloc HRow.out (.cells #[.int .i64 b.t] 3)))
            clear hown5 hgrow5 hnil5
            go_roundg (bs.length - (k + 1))
            case measure => omega
            case rel =>
              have ta : Turned [] wr (wr.alloc (.cells #[.int .i64 b.t] 3)) := (Turned.refl _ _).alloc _
              have tg : Turned [] wb w5 := (htk.out.trans ta).grown HG5.out (fun j hj => .inr (HTY.out j hj).1)
              exact ⟨k + 1, v5, rfl, by go_num, by omega, Nat.le_refl _, by rw [HNx.out]; simp only [if_true, List.map_append, List.length_append]; exact HO5.out, tg, tg.size⟩
        · have hke : k = bs.length := by omega
          subst hke
          have e1 : ¬ ((bs.length : Int) < (bs.length : Int)) := by omega
          have HRow := hide hrow.out
          rw [List.take_of_length_le (Nat.le_refl _), List.take_of_length_le (by rw [HRl.out]; exact Nat.le_refl _), HTa.out] at HRow
          go_wp2_with fail
          rw [HQ.out]
          exact ⟨(HT1.out.trans HTu.out).trans htk.out, .inr ⟨v, addrs bs R, rfl, ownsRow_mono HRow.out (HT1.out.trans HTu.out).size, HEnd.out.1, HEnd.out.2⟩⟩
    | cons r T =>
      obtain ⟨gb, off, cp, c, hv2, hgb, hhp, hcp, hsz2, hcells⟩ : ∃ gb off cp c, v = .slice (some ⟨gb, off, none⟩) (T.length + 1) cp ∧ w1.heap.size + 1 ≤ gb ∧ wr.heap[gb]? = some (.cells c 2 (0, 0)) ∧ T.length + 1 ≤ cp ∧ off + cp ≤ c.size ∧ ∀ (i : Nat) x, (r :: T)[i]? = some x → wr.cell? ⟨gb, off + i, none⟩ = some (.int .i64 x) := by
        rcases htd.out with ⟨_, h0⟩ | ⟨gb, off, cp, c, h1, h2, h3, h4, h5, h6⟩
        · cases h0
        · exact ⟨gb, off, cp, c, by simpa using h1, h2, h3, by simpa using h4, h5, h6⟩
      subst hv2
      have c0 : wr.cell? ⟨gb, off, none⟩ = some (.int .i64 r) := by have := hcells 0 r rfl; simpa using this
      have hgk2 : T.length + 1 + leftOf (refWords l cs) bs R ≤ gk := by simpa using hgk
      have HBd := hide (show T.length + 1 + leftOf (refWords l cs) bs R ≤ rs.length + N0 by have := hbnd.out; simpa using this)
      clear hgk hbnd
      obtain ⟨cp2, rfl⟩ : ∃ cp2, cp = cp2 + 1 := ⟨cp - 1, by omega⟩
      by_cases hcp0 : cp2 = 0
      · subst hcp0
        have hT0 : T.length = 0 := by omega
        have HF2 : Hid (w1.heap.size + 1 ≤ gb ∧ wr.heap[gb]? = some (.cells c 2 (0, 0)) ∧ T.length ≤ 0 ∧ off + 0 ≤ c.size ∧ ∀ (i : Nat) x, T[i]? = some x → wr.cell? ⟨gb, off + i, none⟩ = some (.int .i64 x)) :=
          ⟨hgb, hhp, by omega, by omega, fun i x hx => by have := (List.getElem?_eq_some_iff.1 hx).1; omega⟩
        have HTd : Hid (Todo (w1.heap.size + 1) wr (.slice (some ⟨gb, off, none⟩) 0 0) T) := .inr ⟨gb, off, 0, c, by rw [hT0], HF2.out⟩
        have HTl := hide hT0
        rw [hT0]
        clear hgb hhp hsz2 hcells hT0 hcp htd
        by_cases hr0 : r = 0
        · go_wp2_with fail
          go_roundg (T.length + leftOf (refWords l cs) bs R)
          case measure => omega
          case rel => exact ⟨T, R, _, rfl, Nat.le_refl _, by show _ ≤ _; have := HBd.out; omega, HTd.out, hrb.out, hinv.out.pop rfl (.inl hr0), htu.out, hsz.out⟩
        · have HOb := hide (object_any bo bs.length bcap bs r wr (HBr.out.turned htu.out) hbl)
          go_wp2_with fail
          refine HOb.out.mono ?_
          rintro e w5 ⟨r2, rfl, hcase, hw5⟩
          rw [hw5]
          clear hw5 w5 HOb
          rcases hcase with ⟨i, b, hb, hbt, hbk, rfl⟩ | ⟨rfl, hno⟩
          · have hib : i < bs.length := (List.getElem?_eq_some_iff.1 hb).1
            have hib2 : (i : Int) < (bs.length : Int) := by omega
            obtain ⟨q, hq⟩ : ∃ q, R[i]? = some q := ⟨R[i]'(by rw [hinv.out.len]; exact hib), by simp⟩
            have hrc := hrb.out.at hq
            cases q with
            | true =>
              have HIn := hide (hinv.out.pop rfl (.inr ((mem_addrs _ _ _).2 ⟨i, b, hb, hq, hbt⟩)))
              clear hb hbt hbk hq
              go_wp2_with fail
              go_roundg (T.length + leftOf (refWords l cs) bs R)
              case measure => omega
              case rel => exact ⟨T, R, _, rfl, Nat.le_refl _, by show _ ≤ _; have := HBd.out; omega, HTd.out, hrb.out, HIn.out, htu.out, hsz.out⟩
            | false =>
              have hea := HFa.out.each b (List.mem_of_getElem? hb)
              have hro2 := readOf_some hea.2.2
              have ho : objOf bs r = some b := by
                rw [← hbt]
                exact objOf_mem bs (fun _ => none) HFa.out.apart b (List.mem_of_getElem? hb) (by omega)
              have HIn := hide (hinv.out.mark rfl hr0 hb (by omega) hbt ho)
              have HLf := hide (leftOf_set (refWords l cs) bs R i b hb hq)
              have HRB2 := hide (hrb.out.set i)
              have hfz := hrb.out.fz i
              have ts : Turned [w1.heap.size] wr (wr.setCell ⟨w1.heap.size, i, none⟩ (.bool true)) := (Turned.refl _ _).setCell (by simp) _
              have htu2 : Turned [] w1 (wr.setCell ⟨w1.heap.size, i, none⟩ (.bool true)) := htu.out.trans_new ts (fun k hk => by simp at hk; subst hk; exact .inr (Nat.le_refl _))
              have HTu2 := hide htu2
              obtain ⟨tn, htn⟩ := Int.eq_ofNat_of_zero_le (show 0 ≤ b.t by omega)
              obtain ⟨bg, boff, rfl, b0, b1, b2, b3⟩ := (HBr.out.turned htu2).cell i b hb
              have HRef : Hid (Calls Tryz.prog 58 #[.slice (some ⟨d, 0, none⟩) l.length l.length, .slice ao len cap, .agg #[.int .i64 b.t, .int .i64 b.k, .int .i64 b.n, .int .i64 b.s]] (wr.setCell ⟨w1.heap.size, i, none⟩ (.bool true)) fun e w' =>
                  ∃ v, e = .returned v ∧ w'.ownsRow (wr.setCell ⟨w1.heap.size, i, none⟩ (.bool true)).heap.size 2 1 v (refWords l cs b).length ((refWords l cs b).map (Value.int .i64)) ∧ Turned [] (wr.setCell ⟨w1.heap.size, i, none⟩ (.bool true)) w') := by
                have h1 := rrefs4_any (some ⟨d, 0, none⟩) l.length l ao len cap cs tn b.k b.n b.s (wr.setCell ⟨w1.heap.size, i, none⟩ (.bool true)) hl (by omega) (by obtain ⟨y, _, _, _, hx⟩ := hro2.2.2.2.2.2.2.2; rw [hx]; exact part_in64 y) ⟨rfl, by omega, fun j y hy => ⟨d, 0, rfl, by rw [Nat.zero_add]; exact (HV.out.turned (HT1.out.trans htu2) (by simp)).word hy⟩, HL64.out⟩ (HC.out.turned (HT1.out.trans htu2))
                rw [htn]
                have e : (⟨(tn : Int), b.k, b.n, b.s⟩ : Blk) = b := by rw [← htn]
                rw [e] at h1
                exact h1
              obtain ⟨hg1, hg2, hg3, hg4, hg5⟩ := HF2.out
              have hne : gb ∉ [w1.heap.size] := by simp; omega
              have HF3 : Hid ((wr.setCell ⟨w1.heap.size, i, none⟩ (.bool true)).heap[gb]? = some (.cells c 2 (0, 0)) ∧ ∀ (j : Nat) x, T[j]? = some x → (wr.setCell ⟨w1.heap.size, i, none⟩ (.bool true)).cell? ⟨gb, off + j, none⟩ = some (.int .i64 x)) :=
                ⟨by rw [ts.block gb (lt_of_heap hg2) hne]; exact hg2, fun j x hx => by rw [ts.cell (p := ⟨gb, off + j, none⟩) (lt_of_heap hg2) hne]; exact hg5 j x hx⟩
              have HSz2 := hide (show w1.heap.size + 1 ≤ (wr.setCell ⟨w1.heap.size, i, none⟩ (.bool true)).heap.size from Nat.le_trans hsz.out ts.size)
              have HGb := hide (And.intro hg1 (And.intro hg3 hg4))
              clear hb hbt hbk hq hea hro2 ho htu2 hg1 hg2 hg3 hg4 hg5 hne ts htn
              go_wp2_with fail
              refine HRef.out.mono ?_
              rintro e w6 ⟨v6, rfl, ho6, ht6⟩
              have HO6 := hide ho6
              have HT6 := hide ht6
              have HF6 : Hid (w6.heap[gb]? = some (.cells c 2 (0, 0)) ∧ ∀ (j : Nat) x, T[j]? = some x → w6.cell? ⟨gb, off + j, none⟩ = some (.int .i64 x)) :=
                ⟨by rw [ht6.block gb (lt_of_heap HF3.out.1) (by simp)]; exact HF3.out.1, fun j x hx => by rw [ht6.cell (p := ⟨gb, off + j, none⟩) (lt_of_heap HF3.out.1) (by simp)]; exact HF3.out.2 j x hx⟩
              have HLn6 := hide (show (T.length + (refWords l cs b).length) * 8 ≤ 140737488355328 by have := HM2.out; have := HBd.out; have := HLf.out; omega)
              clear ho6 ht6 HRef b0 b1 b2 b3 hrc hfz
              go_wp2_with (at_builtin; (refine todo_append (B := w1.heap.size + 1) w6 rfl _ _ rfl gb off 0 c T (refWords l cs b) _ v6 (by rw [HTl.out]; rfl) rfl HGb.out.1 (Nat.le_trans HSz2.out HT6.out.size) HF6.out.1 HGb.out.2.1 HGb.out.2.2 HF6.out.2 HO6.out HLn6.out ?_); intro v7 w7 htd7 ht7)
              have HTd7 := hide htd7
              have HT7 := hide ht7
              clear htd7 ht7
              go_roundg (T.length + leftOf (refWords l cs) bs R)
              case measure => omega
              case rel =>
                have e1 := HLf.out
                have e2 := HBd.out
                have hne7 : w1.heap.size ∉ [gb] := by have := HGb.out.1; simp; omega
                exact ⟨T ++ refWords l cs b, R.set i true, v7, rfl, by rw [List.length_append]; omega, by show _ ≤ _; rw [List.length_append]; omega, HTd7.out, (HRB2.out.turned HT6.out (by simp)).turned HT7.out hne7, HIn.out, (HTu2.out.trans HT6.out).trans_new HT7.out (fun k hk => by simp at hk; subst hk; exact .inr (by have := HGb.out.1; omega)), Nat.le_trans (Nat.le_trans HSz2.out HT6.out.size) HT7.out.size⟩
          · have hlost : Lost (objOf bs) (refWords l cs) rs := hinv.out.lost rfl hr0 (by
              cases ho : objOf bs r with
              | none => rfl
              | some b =>
                obtain ⟨h1, h2, h3⟩ := objOf_some ho
                have h4 := HFa.out.each b h1
                obtain ⟨y, _, _, hk, _⟩ := (readOf_some h4.2.2).2.2.2.2.2.2.2
                exact absurd ⟨h3.symm, by have : 0 ≤ partC y := by unfold partC; omega
                                          omega⟩ (hno b h1))
            have HLo := hide hlost
            clear hno hlost
            go_wp2_with fail
            rw [HQ.out]
            exact ⟨HT1.out.trans htu.out, .inl ⟨rfl, HLo.out⟩⟩
      · have HF2 : Hid (w1.heap.size + 1 ≤ gb ∧ wr.heap[gb]? = some (.cells c 2 (0, 0)) ∧ T.length ≤ cp2 ∧ off + 1 + cp2 ≤ c.size ∧ ∀ (i : Nat) x, T[i]? = some x → wr.cell? ⟨gb, off + 1 + i, none⟩ = some (.int .i64 x)) :=
          ⟨hgb, hhp, by omega, by omega, fun i x hx => by have := hcells (i + 1) x (by simpa using hx); rwa [show off + (i + 1) = off + 1 + i by omega] at this⟩
        obtain ⟨tl, hTl⟩ : ∃ tl, T.length = tl := ⟨_, rfl⟩
        have HTd : Hid (Todo (w1.heap.size + 1) wr (.slice (some ⟨gb, off + 1, none⟩) tl cp2) T) := .inr ⟨gb, off + 1, cp2, c, by rw [hTl], HF2.out⟩
        have HTl := hide hTl
        rw [hTl]
        rw [hTl] at hcp
        clear hgb hhp hsz2 hcells hTl htd
        by_cases hr0 : r = 0
        · go_wp2_with fail
          go_roundg (T.length + leftOf (refWords l cs) bs R)
          case measure => omega
          case rel => exact ⟨T, R, _, rfl, Nat.le_refl _, by show _ ≤ _; have := HBd.out; omega, HTd.out, hrb.out, hinv.out.pop rfl (.inl hr0), htu.out, hsz.out⟩
        · have HOb := hide (object_any bo bs.length bcap bs r wr (HBr.out.turned htu.out) hbl)
          go_wp2_with fail
          refine HOb.out.mono ?_
          rintro e w5 ⟨r2, rfl, hcase, hw5⟩
          rw [hw5]
          clear hw5 w5 HOb
          rcases hcase with ⟨i, b, hb, hbt, hbk, rfl⟩ | ⟨rfl, hno⟩
          · have hib : i < bs.length := (List.getElem?_eq_some_iff.1 hb).1
            have hib2 : (i : Int) < (bs.length : Int) := by omega
            obtain ⟨q, hq⟩ : ∃ q, R[i]? = some q := ⟨R[i]'(by rw [hinv.out.len]; exact hib), by simp⟩
            have hrc := hrb.out.at hq
            cases q with
            | true =>
              have HIn := hide (hinv.out.pop rfl (.inr ((mem_addrs _ _ _).2 ⟨i, b, hb, hq, hbt⟩)))
              clear hb hbt hbk hq
              go_wp2_with fail
              go_roundg (T.length + leftOf (refWords l cs) bs R)
              case measure => omega
              case rel => exact ⟨T, R, _, rfl, Nat.le_refl _, by show _ ≤ _; have := HBd.out; omega, HTd.out, hrb.out, HIn.out, htu.out, hsz.out⟩
            | false =>
              have hea := HFa.out.each b (List.mem_of_getElem? hb)
              have hro2 := readOf_some hea.2.2
              have ho : objOf bs r = some b := by
                rw [← hbt]
                exact objOf_mem bs (fun _ => none) HFa.out.apart b (List.mem_of_getElem? hb) (by omega)
              have HIn := hide (hinv.out.mark rfl hr0 hb (by omega) hbt ho)
              have HLf := hide (leftOf_set (refWords l cs) bs R i b hb hq)
              have HRB2 := hide (hrb.out.set i)
              have hfz := hrb.out.fz i
              have ts : Turned [w1.heap.size] wr (wr.setCell ⟨w1.heap.size, i, none⟩ (.bool true)) := (Turned.refl _ _).setCell (by simp) _
              have htu2 : Turned [] w1 (wr.setCell ⟨w1.heap.size, i, none⟩ (.bool true)) := htu.out.trans_new ts (fun k hk => by simp at hk; subst hk; exact .inr (Nat.le_refl _))
              have HTu2 := hide htu2
              obtain ⟨tn, htn⟩ := Int.eq_ofNat_of_zero_le (show 0 ≤ b.t by omega)
              obtain ⟨bg, boff, rfl, b0, b1, b2, b3⟩ := (HBr.out.turned htu2).cell i b hb
              have HRef : Hid (Calls Tryz.prog 58 #[.slice (some ⟨d, 0, none⟩) l.length l.length, .slice ao len cap, .agg #[.int .i64 b.t, .int .i64 b.k, .int .i64 b.n, .int .i64 b.s]] (wr.setCell ⟨w1.heap.size, i, none⟩ (.bool true)) fun e w' =>
                  ∃ v, e = .returned v ∧ w'.ownsRow (wr.setCell ⟨w1.heap.size, i, none⟩ (.bool true)).heap.size 2 1 v (refWords l cs b).length ((refWords l cs b).map (Value.int .i64)) ∧ Turned [] (wr.setCell ⟨w1.heap.size, i, none⟩ (.bool true)) w') := by
                have h1 := rrefs4_any (some ⟨d, 0, none⟩) l.length l ao len cap cs tn b.k b.n b.s (wr.setCell ⟨w1.heap.size, i, none⟩ (.bool true)) hl (by omega) (by obtain ⟨y, _, _, _, hx⟩ := hro2.2.2.2.2.2.2.2; rw [hx]; exact part_in64 y) ⟨rfl, by omega, fun j y hy => ⟨d, 0, rfl, by rw [Nat.zero_add]; exact (HV.out.turned (HT1.out.trans htu2) (by simp)).word hy⟩, HL64.out⟩ (HC.out.turned (HT1.out.trans htu2))
                rw [htn]
                have e : (⟨(tn : Int), b.k, b.n, b.s⟩ : Blk) = b := by rw [← htn]
                rw [e] at h1
                exact h1
              obtain ⟨hg1, hg2, hg3, hg4, hg5⟩ := HF2.out
              have hne : gb ∉ [w1.heap.size] := by simp; omega
              have HF3 : Hid ((wr.setCell ⟨w1.heap.size, i, none⟩ (.bool true)).heap[gb]? = some (.cells c 2 (0, 0)) ∧ ∀ (j : Nat) x, T[j]? = some x → (wr.setCell ⟨w1.heap.size, i, none⟩ (.bool true)).cell? ⟨gb, (off + 1) + j, none⟩ = some (.int .i64 x)) :=
                ⟨by rw [ts.block gb (lt_of_heap hg2) hne]; exact hg2, fun j x hx => by rw [ts.cell (p := ⟨gb, (off + 1) + j, none⟩) (lt_of_heap hg2) hne]; exact hg5 j x hx⟩
              have HSz2 := hide (show w1.heap.size + 1 ≤ (wr.setCell ⟨w1.heap.size, i, none⟩ (.bool true)).heap.size from Nat.le_trans hsz.out ts.size)
              have HGb := hide (And.intro hg1 (And.intro hg3 hg4))
              clear hb hbt hbk hq hea hro2 ho htu2 hg1 hg2 hg3 hg4 hg5 hne ts htn
              go_wp2_with fail
              refine HRef.out.mono ?_
              rintro e w6 ⟨v6, rfl, ho6, ht6⟩
              have HO6 := hide ho6
              have HT6 := hide ht6
              have HF6 : Hid (w6.heap[gb]? = some (.cells c 2 (0, 0)) ∧ ∀ (j : Nat) x, T[j]? = some x → w6.cell? ⟨gb, (off + 1) + j, none⟩ = some (.int .i64 x)) :=
                ⟨by rw [ht6.block gb (lt_of_heap HF3.out.1) (by simp)]; exact HF3.out.1, fun j x hx => by rw [ht6.cell (p := ⟨gb, (off + 1) + j, none⟩) (lt_of_heap HF3.out.1) (by simp)]; exact HF3.out.2 j x hx⟩
              have HLn6 := hide (show (T.length + (refWords l cs b).length) * 8 ≤ 140737488355328 by have := HM2.out; have := HBd.out; have := HLf.out; omega)
              clear ho6 ht6 HRef b0 b1 b2 b3 hrc hfz
              go_wp2_with (at_builtin; (refine todo_append (B := w1.heap.size + 1) w6 rfl _ _ rfl gb (off + 1) cp2 c T (refWords l cs b) _ v6 (by rw [HTl.out]; rfl) rfl HGb.out.1 (Nat.le_trans HSz2.out HT6.out.size) HF6.out.1 HGb.out.2.1 HGb.out.2.2 HF6.out.2 HO6.out HLn6.out ?_); intro v7 w7 htd7 ht7)
              have HTd7 := hide htd7
              have HT7 := hide ht7
              clear htd7 ht7
              go_roundg (T.length + leftOf (refWords l cs) bs R)
              case measure => omega
              case rel =>
                have e1 := HLf.out
                have e2 := HBd.out
                have hne7 : w1.heap.size ∉ [gb] := by have := HGb.out.1; simp; omega
                exact ⟨T ++ refWords l cs b, R.set i true, v7, rfl, by rw [List.length_append]; omega, by show _ ≤ _; rw [List.length_append]; omega, HTd7.out, (HRB2.out.turned HT6.out (by simp)).turned HT7.out hne7, HIn.out, (HTu2.out.trans HT6.out).trans_new HT7.out (fun k hk => by simp at hk; subst hk; exact .inr (by have := HGb.out.1; omega)), Nat.le_trans (Nat.le_trans HSz2.out HT6.out.size) HT7.out.size⟩
          · have hlost : Lost (objOf bs) (refWords l cs) rs := hinv.out.lost rfl hr0 (by
              cases ho : objOf bs r with
              | none => rfl
              | some b =>
                obtain ⟨h1, h2, h3⟩ := objOf_some ho
                have h4 := HFa.out.each b h1
                obtain ⟨y, _, _, hk, _⟩ := (readOf_some h4.2.2).2.2.2.2.2.2.2
                exact absurd ⟨h3.symm, by have : 0 ≤ partC y := by unfold partC; omega
                                          omega⟩ (hno b h1))
            have HLo := hide hlost
            clear hno hlost
            go_wp2_with fail
            rw [HQ.out]
            exact ⟨HT1.out.trans htu.out, .inl ⟨rfl, HLo.out⟩⟩
end Go.Proofs.YtgbclfhgpkmcnaaGreatDoor

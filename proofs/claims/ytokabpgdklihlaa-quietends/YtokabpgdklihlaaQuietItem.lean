/-
  The crew of the law QuietEnds: words are put behind those in hands ('hd_append'); an item is worked off ('cover_item').
-/
import Derived.Test.YtokabpgdklihlaaQuietOver
import Derived.ArgAppend
import Derived.Deep.AppendSrc
import Derived.Laws.AppendOwnNone
namespace Go.Proofs.Ytokabpgdklihlaa
open Go.RowKit

theorem hset_at {e : TypeId} {fr : Nat × Nat} (b : Nat) (vs : List Value) : ∀ (o : Nat) (w : World) (c : Array Value), w.heap[b]? = some (.cells c e fr) → ∃ c', (w.setCells b o vs).heap[b]? = some (.cells c' e fr) ∧ c'.size = c.size := by
  induction vs with
  | nil => intro o w c h; exact ⟨c, h, rfl⟩
  | cons v vs ih =>
    intro o w c h
    obtain ⟨c', h1, h2⟩ := ih (o + 1) (w.setCell ⟨b, o, none⟩ v) _ (heap_setCell_at w b o c e fr h v)
    exact ⟨c', h1, by rw [h2]; simp⟩
theorem turned_sets {S : List Nat} {a w : World} (h : Turned S a w) (b o : Nat) (vs : List Value) (hb : b ∈ S ∨ a.heap.size ≤ b) : Turned S a (w.setCells b o vs) := by
  induction vs generalizing o w with
  | nil => exact h
  | cons v vs ih => exact ih (h.setCell (p := ⟨b, o, none⟩) hb v) (o + 1)

theorem Hd.of {B : Nat} {w : World} {v : Value} {n : Nat} {T : List Int} (h : w.ownsRow B 2 1 v n (T.map (Value.int .i64))) : ∃ g, Hd w v T g ∧ ∀ y, y ∈ g → B ≤ y := by
  have hl : T.length = n := by simpa using h.1
  rcases h.2 with ⟨hv, h0⟩ | ⟨g, cap, cur, hv, hg, hh, hc, _, hsz, ht⟩
  · exact ⟨[], .inl ⟨hv, List.eq_nil_of_length_eq_zero (by omega), rfl⟩, by simp⟩
  · refine ⟨[g], .inr ⟨g, 0, cap, cur, rfl, by rw [hv, hl], hh, by omega, by simp at hsz; omega, fun i x hx => ?_⟩, by simpa using hg⟩
    rw [Nat.zero_add, cell_of_heap hh]
    have h1 : (T.map (Value.int .i64))[i]? = some (.int .i64 x) := by rw [List.getElem?_map, hx]; rfl
    rw [← ht, List.getElem?_take] at h1
    split at h1
    · simpa using h1
    · cases h1

theorem Try.info2q : (Try.prog.info? 2).map (fun i => (i.zero, i.size, i.bytes)) = some (some (.int .i64 0), 1, 8) := by kernel_rfl

/-- Words are put behind those in hands. -/
theorem hd_append (w : World) {ops : Array Oper} {rest : List Oper} {o : Oper} {a : Act} {K : Exit → Act → World → Prop} (hg : o.guard = none) (s x : Operand) (hop : o.op = Op.call { callee := .builtin .append, args := #[s, x], argTypes := #[40, 40] })
    (hv : Value) (T X : List Int) (g : List Nat) (hs : a.eval s = hv) (h : Hd w hv T g) (sb m c2 : Nat) (hx : a.eval x = .slice (some ⟨sb, 0, none⟩) m c2) (hm : X.length = m) (hX : ∀ (j : Nat) z, X[j]? = some z → w.cell? ⟨sb, j, none⟩ = some (.int .i64 z)) (hbd : T.length + X.length ≤ 1000)
    (hK : ∀ v' w' g', Hd w' v' (T ++ X) g' → (∀ y, y ∈ g' → y ∈ g ∨ w.heap.size ≤ y) → Turned g w w' → wpList Try.prog ops K rest (a.put o.dst v') w') : wpList Try.prog ops K (o :: rest) a w := by
  have und : Try.prog.underlying 40 = some (.slice 2) := by kernel_rfl
  obtain ⟨i2, hi2, hi0⟩ := Option.map_eq_some_iff.1 Try.info2q
  simp only [Prod.mk.injEq] at hi0
  obtain ⟨hy0, hy1, hy2⟩ := hi0
  have hnews : ∀ j u, (X.map (Value.int .i64))[j]? = some u → w.cell? (Addr.add ⟨sb, 0, none⟩ j) = some u := fun j u hu => by
    rw [List.getElem?_map] at hu
    obtain ⟨z, hz, rfl⟩ := Option.map_eq_some_iff.1 hu
    rw [show Addr.add ⟨sb, 0, none⟩ j = ⟨sb, j, none⟩ by simp [Addr.add]; intro h; exact h.symm]
    exact hX j z hz
  rcases h with ⟨rfl, rfl, rfl⟩ | ⟨gb, off, cp, c, rfl, rfl, hh, hcp, hsz, hT⟩
  · refine wpList_append_own w hg s x 40 hop w.heap.size 2 i2 _ 1 8 und hi2 hy0 hy1 hy2 rfl (by decide) _ 0 [] hs (World.ownsRow_nil _ _ _ _) ⟨sb, 0, none⟩ m c2 (X.map (Value.int .i64)) hx (by simp [hm]) hnews (fun u hu => by obtain ⟨y, _, rfl⟩ := List.mem_map.1 hu; rfl) (by simp at hbd; unfold maxLen; omega) (by simp at hbd; omega) (Nat.le_refl _) ?_
    intro v' w' hown hgr _
    simp only [Nat.zero_add, List.nil_append] at hown
    obtain ⟨g', q1, q2⟩ := Hd.of hown
    exact hK v' w' g' q1 (fun y hy => .inr (q2 y hy)) ((Turned.refl _ _).grown hgr (fun k hk => by simp [Value.ownBlock] at hk))
  · refine wpList_append_arg w hg s x 40 hop 2 i2 _ 1 8 und hi2 hy0 hy1 hy2 rfl (by decide) gb off T.length cp (T.map (Value.int .i64)) hs (by simp) (fun j u hu => ?_) ⟨sb, 0, none⟩ m c2 (X.map (Value.int .i64)) hx (by simp [hm]) hnews (fun u hu => by obtain ⟨y, _, rfl⟩ := List.mem_map.1 hu; rfl) (fun hr j hj => ?_) (by unfold maxLen; omega) (by omega) (fun hr => ?_) (fun hr v' w' h1 h2 => ?_)
    · rw [List.getElem?_map] at hu
      obtain ⟨y, hy, rfl⟩ := Option.map_eq_some_iff.1 hu
      exact hT j y hy
    · simp at hj
      refine ⟨?_, by simp [World.frozen?, hh]⟩
      rw [cell_of_heap hh, Array.getElem?_eq_getElem (by omega)]
      rfl
    · rw [Nat.mul_one, ← hm]
      obtain ⟨c', h1, h2⟩ := hset_at gb (X.map (Value.int .i64)) (off + T.length) w c hh
      refine hK _ _ [gb] (.inr ⟨gb, off, cp, c', rfl, by rw [List.length_append], h1, by rw [List.length_append]; omega, by omega, fun i y hy => ?_⟩) (by simp) (turned_sets (Turned.refl _ _) _ _ _ (by simp))
      rw [List.getElem?_append] at hy
      split at hy
      · rename_i hi
        rw [World.cell?_setCells_out _ _ _ _ _ (fun _ _ => .inl (by show off + i < off + T.length; omega))]
        exact hT i y hy
      · rename_i hi
        have hj : i - T.length < X.length := (List.getElem?_eq_some_iff.1 hy).1
        have hin := World.cell?_setCells_in gb (X.map (Value.int .i64)) (off + T.length) w (fun j hj => by
          rw [cell_of_heap hh]
          simp at hj
          rw [Array.getElem?_eq_getElem (by omega)]
          rfl) (i - T.length) (by simpa using hj)
        rw [show off + T.length + (i - T.length) = off + i by omega] at hin
        rw [hin]
        simp [List.getElem?_eq_some_iff.1 hy |>.2]
    · rw [← List.map_append] at h1
      obtain ⟨g', q1, q2⟩ := Hd.of h1
      exact hK v' w' g' q1 (fun y hy => .inr (q2 y hy)) ((Turned.refl _ _).grown h2 (fun k hk => by cases hk))

section
variable {w w' : World} {C gw gd a b p q : Nat} {ws ds : List Nat} {dn : Int} {x : WkS} {B : List Nat} {Q : QC} {l : List Int} {s : Int} {c : Array Value}
/-- What is a worker's own is of these types. -/
theorem Wk.types (h : Wk w b a ds x B) : ∀ y, y ∈ B → ∃ c e fr, w.heap[y]? = some (.cells c e fr) ∧ (e = 2 ∨ e = 84 ∨ e = 75) := by
  obtain ⟨hv, g, po, pf, rfl, h1, h2, h3⟩ := h
  intro y hy
  simp at hy
  rcases hy with hy | hy | hy
  · rcases h2 with ⟨_, _, rfl⟩ | ⟨gb, off, cap, cc, rfl, _, h3, _⟩
    · simp at hy
    · simp at hy
      subst hy
      exact ⟨_, _, _, h3, .inl rfl⟩
  · cases hx : x.act <;> rw [hx] at h3
    · rw [h3.1] at hy; cases hy
    · obtain ⟨_, ob, d, e2, _, e4⟩ := h3
      rw [e2] at hy
      cases hy
      exact ⟨_, _, _, e4, .inr (.inl rfl)⟩
    · rw [h3.1] at hy; cases hy
  · cases hx : x.act <;> rw [hx] at h3
    · rw [h3.2] at hy; cases hy
    · rw [h3.1] at hy; cases hy
    · obtain ⟨_, ob, e2, e4⟩ := h3
      rw [e2] at hy
      cases hy
      obtain ⟨c, hc⟩ := e4.type
      exact ⟨_, _, _, hc, .inr (.inr rfl)⟩
theorem Wk.raw (h : Wk w b a ds x B) : ∃ c, WkR w b c := by
  obtain ⟨hv, g, po, pf, rfl, h1, _⟩ := h
  exact ⟨_, h1⟩
/-- The crew, the count and the deques stay where a worker's own is turned. -/
theorem Cw.keep (h : Cw w C gw gd a ws ds dn) (hx : Wk w b a ds x B) {S : List Nat} (hS : ∀ y, y ∈ S → y = b ∨ y ∈ B) (t : Turned S w w') : Cw w' C gw gd a ws ds dn := by
  obtain ⟨c, hb⟩ := hx.raw
  have hne := h.ne hb
  have h0 := h
  obtain ⟨⟨cw, cd, h1⟩, h2, ⟨c3, f3, h3⟩, ⟨c4, f4, h4⟩, h5, h6⟩ := h
  have key : ∀ z cc e fr, w.heap[z]? = some (.cells cc e fr) → z ≠ b → e ≠ 2 → e ≠ 84 → e ≠ 75 → z ∉ S := by
    intro z cc e fr hz hzb q1 q2 q3 hzS
    rcases hS z hzS with hz2 | hz2
    · exact hzb hz2
    · obtain ⟨c5, e5, f5, h7, h8⟩ := hx.types z hz2
      rw [hz] at h7
      cases h7
      rcases h8 with h8 | h8 | h8
      · exact q1 h8
      · exact q2 h8
      · exact q3 h8
  exact h0.turned t (key C _ _ _ h1 hne.1 (by decide) (by decide) (by decide)) (key gw _ _ _ h3 hne.2.1 (by decide) (by decide) (by decide)) (key gd _ _ _ h4 hne.2.2 (by decide) (by decide) (by decide))
theorem Sh.keep (hs : Sh w a p q ds Q l s) (hx : Wk w b a ds x B) (hq : q ∉ B) {S : List Nat} (hS : ∀ y, y ∈ S → y = b ∨ y ∈ B) (t : Turned S w w') : Sh w' a p q ds Q l s := by
  obtain ⟨c, hb⟩ := hx.raw
  have key : ∀ z cc e fr, w.heap[z]? = some (.cells cc e fr) → z ≠ b → e ≠ 2 → e ≠ 84 → e ≠ 75 → z ∉ S := by
    intro z cc e fr hz hzb q1 q2 q3 hzS
    rcases hS z hzS with hz2 | hz2
    · exact hzb hz2
    · obtain ⟨c5, e5, f5, h7, h8⟩ := hx.types z hz2
      rw [hz] at h7
      cases h7
      rcases h8 with h8 | h8 | h8
      · exact q1 h8
      · exact q2 h8
      · exact q3 h8
  refine hs.turned t (key a _ _ _ hs.head (ne_of_type hs.head hb (by decide)) (by decide) (by decide) (by decide)) (key p _ _ _ hs.mem.head (ne_of_type hs.mem.head hb (by decide)) (by decide) (by decide) (by decide)) (fun h => ?_) (fun d hd => ?_)
  · rcases hS q h with h1 | h1
    · exact ne_of_type hs.mem.row hb (by decide) h1
    · exact hq h1
  · obtain ⟨i, hi⟩ := List.getElem?_of_mem hd
    have hd1 := (hs.dq i d hi).head
    exact key d _ _ _ hd1 (ne_of_type hd1 hb (by decide)) (by decide) (by decide) (by decide)
/-- One more item is worked off. -/
theorem Cw.inc (h : Cw w C gw gd a ws ds dn) (v : Int) : Cw (w.setCell ⟨C, 3, none⟩ (.int .i64 v)) C gw gd a ws ds v := by
  have t : Turned [C] w (w.setCell ⟨C, 3, none⟩ (.int .i64 v)) := (Turned.refl _ _).setCell (by simp) _
  obtain ⟨⟨cw, cd, h1⟩, h2, ⟨c3, f3, h3⟩, ⟨c4, f4, h4⟩, h5, h6⟩ := h
  have n1 : gw ∉ [C] := by simp; exact ne_of_type h3 h1 (by decide)
  have n2 : gd ∉ [C] := by simp; exact ne_of_type h4 h1 (by decide)
  exact ⟨⟨cw, cd, heap_setCell_at _ _ _ _ _ _ h1 _⟩, h2, ⟨c3, f3, by rw [t.block gw (lt_of_heap h3) n1]; exact h3⟩, ⟨c4, f4, by rw [t.block gd (lt_of_heap h4) n2]; exact h4⟩,
    fun i x hx => by rw [t.cell (p := ⟨gw, i, none⟩) (lt_of_heap h3) n1]; exact h5 i x hx, fun i x hx => by rw [t.cell (p := ⟨gd, i, none⟩) (lt_of_heap h4) n2]; exact h6 i x hx⟩
theorem Cw.type (h : Cw w C gw gd a ws ds dn) : ∃ c, w.heap[C]? = some (.cells c 35) := by
  obtain ⟨⟨cw, cd, h1⟩, _⟩ := h
  exact ⟨_, h1⟩
theorem Sh.turnedc (hs : Sh w a p q ds Q l s) (h : Cw w C gw gd a ws ds dn) (t : Turned [C] w w') : Sh w' a p q ds Q l s := by
  obtain ⟨c, hc⟩ := h.type
  exact hs.turned t (by simp; exact ne_of_type hs.head hc (by decide)) (by simp; exact ne_of_type hs.mem.head hc (by decide)) (by simp; exact ne_of_type hs.mem.row hc (by decide)) (fun d hd => by
    obtain ⟨i, hi⟩ := List.getElem?_of_mem hd
    simp
    exact ne_of_type (hs.dq i d hi).head hc (by decide))
theorem Wk.turnedc (hx : Wk w b a ds x B) (h : Cw w C gw gd a ws ds dn) (t : Turned [C] w w') : Wk w' b a ds x B := by
  obtain ⟨c, hc⟩ := h.type
  obtain ⟨c2, hb⟩ := hx.raw
  refine hx.turned t (by simp; exact ne_of_type hb hc (by decide)) (fun k hk => ?_) (fun k hk => ?_)
  · obtain ⟨c5, e5, f5, h7, h8⟩ := hx.types k hk
    simp
    refine ne_of_type h7 hc ?_
    rcases h8 with rfl | rfl | rfl <;> decide
  · simp at hk
    subst hk
    exact noRow hc (by decide)
end

section
variable (w : World) (C gw gd a p q b k : Nat) (ws ds : List Nat) (Q : QC) (l : List Int) (s dn : Int)

set_option maxHeartbeats 4000000 in
set_option maxRecDepth 100000 in
theorem cover_item (x : WkS) (B : List Nat) (j : Nat) (o : OpS) (hxa : x.act = .op j o) (hT : x.hands = []) (hkd : 1 ≤ x.kind ∧ x.kind ≤ 50) (he : (valOf o).2 = 0) (hvr : -1000 ≤ (valOf o).1 ∧ (valOf o).1 ≤ 1000) (hdn : 0 ≤ dn ∧ dn ≤ 100000) (hq : q ∉ B) (hk : ws[k]? = some b) (hC : Cw w C gw gd a ws ds dn) (hs : Sh w a p q ds Q l s) (hx : Wk w b a ds x B) :
    Calls Try.prog 25 #[.pointer (some ⟨C, 0, none⟩), .int .i64 k] w fun e w' => e = .returned (.bool true) ∧ (∃ B', Wk w' b a ds (overS ds.length k x (valOf o).1 (valOf o).2).1 B' ∧ ∀ y, y ∈ B' → y ∈ B ∨ w.heap.size ≤ y) ∧ Cw w' C gw gd a ws ds (dn + 1) ∧ Sh w' a p q ds Q l s ∧ Turned (C :: b :: B) w w' := by
  have hx' := hx
  obtain ⟨hv, g, po, pf, hB, h1, h2, h3⟩ := hx'
  rw [hxa] at h3
  obtain ⟨rfl, ob, d, rfl, hdj, h4⟩ := h3
  rw [hT] at h2
  have HV := hide (value_any w d ob o h4)
  rw [he] at HV
  have hov : (overS ds.length k x (valOf o).1 (valOf o).2).1 = nextS ds.length k { x with hands := if 0 < (valOf o).1 then [(valOf o).1 - 1, (valOf o).1 - 1] else [] } 0 := by
    unfold overS
    rw [if_neg (by omega), if_pos he, hT]
    rfl
  rw [hov]
  clear hov
  have hob : ob ∈ B := by rw [hB]; simp
  have hgB : ∀ y, y ∈ g → y ∈ B := fun y hy => by rw [hB]; simp [hy]
  -- behind the count of items
  have HA : Hid (∀ w1 : World, Turned [] w w1 → Cw (w1.setCell ⟨C, 3, none⟩ (.int .i64 (dn + 1))) C gw gd a ws ds (dn + 1) ∧ Sh (w1.setCell ⟨C, 3, none⟩ (.int .i64 (dn + 1))) a p q ds Q l s ∧ Wk (w1.setCell ⟨C, 3, none⟩ (.int .i64 (dn + 1))) b a ds x B ∧ WkR (w1.setCell ⟨C, 3, none⟩ (.int .i64 (dn + 1))) b (wkCells hv (some ⟨ob, 0, none⟩) x.kind none x.ended) ∧ Hd (w1.setCell ⟨C, 3, none⟩ (.int .i64 (dn + 1))) hv [] g ∧ Turned (C :: b :: B) w (w1.setCell ⟨C, 3, none⟩ (.int .i64 (dn + 1)))) := by
    intro w1 t
    have hC1 := hC.turned t (by simp) (by simp) (by simp)
    have hs1 := hs.turned t (by simp) (by simp) (by simp) (by simp)
    have hx1 := hx.turned t (by simp) (by simp) (by simp)
    have t2 : Turned [C] w1 (w1.setCell ⟨C, 3, none⟩ (.int .i64 (dn + 1))) := (Turned.refl _ _).setCell (by simp) _
    have hbC := (hC.ne h1).1
    obtain ⟨cC, hcC⟩ := hC.type
    refine ⟨hC1.inc _, hs1.turnedc hC1 t2, hx1.turnedc hC1 t2, (h1.turned t (by simp)).turned t2 (by simp; exact Ne.symm hbC), (h2.turned t (by simp)).turned t2 (fun y hy => ?_), (t.mono (by simp)).trans (t2.mono (by simp))⟩
    obtain ⟨c5, e5, f5, h7, h8⟩ := hx.types y (hgB y hy)
    simp
    refine ne_of_type h7 hcC ?_
    rcases h8 with rfl | rfl | rfl <;> decide
  have hkl : k < ws.length := (List.getElem?_eq_some_iff.1 hk).1
  have hlen := hC.len
  have kw := hC.w_ k b hk
  have n1 := (hC.ne h1).1
  obtain ⟨cw, cd, hh⟩ := hC.head
  have c0 : w.cell? ⟨C, 0, none⟩ = some (.slice (some ⟨gw, 0, none⟩) ws.length cw) := by rw [cell_of_heap hh]; rfl
  have c3 : w.cell? ⟨C, 3, none⟩ = some (.int .i64 dn) := by rw [cell_of_heap hh]; rfl
  have zc : w.frozen? ⟨C, 3, none⟩ = false := by simp [World.frozen?, hh]
  have f1 := h1.f 1
  have f2 := h1.f 2
  simp only [wkCells, ptr] at f1 f2
  have hw4 : ws.length ≤ 4 := by omega
  generalize ws.length = m at c0 hkl hw4
  have k0 : ¬ (x.kind = 0) := by omega
  have d1 : wrap64 (dn + 1) = dn + 1 := w64 _ (by omega)
  have HN := hide (fun (w' : World) (T : List Int) (B' : List Nat) (hC' : Cw w' C gw gd a ws ds (dn + 1)) (hs' : Sh w' a p q ds Q l s) (hx' : Wk w' b a ds { x with hands := T } B') => cnext_any w' C gw gd a p q b k ws ds Q l s (dn + 1) { x with hands := T } B' 0 (by omega) hk hC' hs' hx')
  have HO := hide (And.intro h4 (And.intro hob (And.intro hgB (And.intro hdj (And.intro hxa (And.intro hq hx))))))
  have HE : Hid (x = { x with hands := [] }) := by
    cases x
    simp only at hT
    subst hT
    rfl
  clear hC hs hx h1 h2 h4 hh hlen hk hdj hxa hkd he hob hgB hT hB hq
  generalize (valOf o).1 = v at *
  generalize hkk : x.kind = kd at *
  clear hkk
  go_enter Try.func25, Try.ntmps25
  go_wp2_with fail
  refine HV.out.mono ?_
  rintro e w1 ⟨rfl, nq, hw1⟩
  have HT1 : Hid (Turned [] w w1) := by rw [hw1]; exact (Turned.refl _ _).drewN _
  have HSz : Hid (w1.heap.size = w.heap.size) := by rw [hw1]; rfl
  have f2' : w1.cell? ⟨b, 2, none⟩ = some (.int .i64 kd) := by rw [hw1]; exact f2
  have c3' : w1.cell? ⟨C, 3, none⟩ = some (.int .i64 dn) := by rw [hw1]; exact c3
  have zc' : w1.frozen? ⟨C, 3, none⟩ = false := by rw [hw1]; exact zc
  clear hw1 HV f1 f2 c0 c3 zc kw
  have HA1 := hide (HA.out w1 HT1.out)
  clear HA
  by_cases hv0 : 0 < v
  · have v1 : wrap64 (v - 1) = v - 1 := w64 _ (by omega)
    have f0 : (w1.setCell ⟨C, 3, none⟩ (.int .i64 (dn + 1))).cell? ⟨b, 0, none⟩ = some hv := by rw [HA1.out.2.2.2.1.f]; rfl
    have f0' : w1.cell? ⟨b, 0, none⟩ = some hv := by rw [World.cell?_setCell_far _ _ _ _ (by exact n1)] at f0; exact f0
    have HXc : Hid (∀ (i : Nat) z, [v - 1, v - 1][i]? = some z → ((w1.setCell ⟨C, 3, none⟩ (.int .i64 (dn + 1))).alloc (.cells #[.int .i64 (v - 1), .int .i64 (v - 1)] 2)).cell? ⟨w1.heap.size, i, none⟩ = some (.int .i64 z)) := by
      intro i z hz
      have e : (w1.setCell ⟨C, 3, none⟩ (.int .i64 (dn + 1))).heap.size = w1.heap.size := by simp
      rw [← e, cell_of_heap (heap_alloc_new _ _)]
      match i with
      | 0 => simp at hz; subst hz; rfl
      | 1 => simp at hz; subst hz; rfl
      | i + 2 => simp at hz
    have HHd := hide (HA1.out.2.2.2.2.1.turned ((Turned.refl [] _).alloc (.cells #[.int .i64 (v - 1), .int .i64 (v - 1)] 2)) (by simp))
    have HWr := hide (HA1.out.2.2.2.1.turned ((Turned.refl [] _).alloc (.cells #[.int .i64 (v - 1), .int .i64 (v - 1)] 2)) (by simp))
    have HNb : Hid (b ∉ g) := fun hbg => (HA1.out.2.2.2.2.1.nb HA1.out.2.2.2.1) b hbg (by simp)
    have HA2 : Hid (∀ (w3 w4 : World), Turned g ((w1.setCell ⟨C, 3, none⟩ (.int .i64 (dn + 1))).alloc (.cells #[.int .i64 (v - 1), .int .i64 (v - 1)] 2)) w3 → Turned [b] w3 w4 → Cw w4 C gw gd a ws ds (dn + 1) ∧ Sh w4 a p q ds Q l s ∧ Turned (C :: b :: B) w w4 ∧ OpB w4 ob d o) := by
      intro w3 w4 t3 t4
      obtain ⟨hOp, hob, hgB, hdj, hxa, hq, hx0⟩ := HO.out
      have t34 : Turned (b :: g) (w1.setCell ⟨C, 3, none⟩ (.int .i64 (dn + 1))) w4 := ((((Turned.refl [] _).alloc (.cells #[.int .i64 (v - 1), .int .i64 (v - 1)] 2)).mono (by simp)).trans (t3.mono (fun y hy => by simp [hy]))).trans (t4.mono (by simp))
      have hS : ∀ y, y ∈ b :: g → y = b ∨ y ∈ B := fun y hy => by simp at hy; rcases hy with rfl | hy; exact .inl rfl; exact .inr (hgB y hy)
      refine ⟨HA1.out.1.keep HA1.out.2.2.1 hS t34, HA1.out.2.1.keep HA1.out.2.2.1 hq hS t34, HA1.out.2.2.2.2.2.trans (t34.mono (fun y hy => by rcases hS y hy with rfl | h; simp; simp [h])), ?_⟩
      obtain ⟨hv9, g9, po9, pf9, _, r1, _, r3⟩ := HA1.out.2.2.1
      have hOp2 : OpB (w1.setCell ⟨C, 3, none⟩ (.int .i64 (dn + 1))) ob d o := by
        rw [hxa] at r3
        obtain ⟨_, ob9, d9, e1, e2, e3⟩ := r3
        have hcc := r1.f 1
        have hcd := HA1.out.2.2.2.1.f 1
        rw [hcc] at hcd
        subst e1
        simp [wkCells, ptr] at hcd
        subst hcd
        rw [hdj] at e2
        cases e2
        exact e3
      refine hOp2.turned t34 (fun hm => ?_)
      simp at hm
      rcases hm with rfl | hm
      · exact ne_of_type hOp2 HA1.out.2.2.2.1 (by decide) rfl
      · rcases HA1.out.2.2.2.2.1 with ⟨_, _, rfl⟩ | ⟨gb, off, cap, cc, rfl, _, h3, _⟩
        · simp at hm
        · simp at hm
          subst hm
          exact ne_of_type hOp2 h3 (by decide) rfl
    go_wp2_with (at_builtin; (refine hd_append _ rfl _ _ rfl hv [] [v - 1, v - 1] g rfl HHd.out w1.heap.size 2 2 rfl rfl HXc.out (by simp) ?_); intro v' w3 g' q1 q2 q3; have e3 := HWr.out.turned q3 HNb.out; have y0 := e3.f 0; have y1 := e3.fz 0; simp only [wkCells] at y0; obtain ⟨gb3, off3, cap3, hv3⟩ : ∃ gb off cap, v' = .slice (some ⟨gb, off, none⟩) 2 cap := (by rcases q1 with ⟨_, h0, _⟩ | ⟨gb, off, cap, cc, _, h1, _⟩; (cases h0); exact ⟨_, _, _, h1⟩); subst hv3; have HR3 := hide e3; have HQ := hide (And.intro q1 (And.intro q2 q3)); clear q1 q2 q3 HXc HHd e3)
    have HR4 := hide (HR3.out.set 0 (.slice (some ⟨gb3, off3, none⟩) 2 cap3))
    have t4 : Turned [b] w3 (w3.setCell ⟨b, 0, none⟩ (.slice (some ⟨gb3, off3, none⟩) 2 cap3)) := (Turned.refl _ _).setCell (by simp) _
    obtain ⟨q1, q2, q3⟩ := HQ.out
    have hA := HA2.out w3 _ q3 t4
    have HA3 := hide hA
    have HH4 := hide (q1.turned t4 (q1.nb HR3.out))
    have HG : Hid (∀ y, y ∈ g' → y ∈ B ∨ w.heap.size ≤ y) := fun y hy => by
      rcases q2 y hy with h | h
      · exact .inl (HO.out.2.2.1 y h)
      · right; have := HSz.out; simp at h; omega
    have HSz4 : Hid (w.heap.size ≤ (w3.setCell ⟨b, 0, none⟩ (.slice (some ⟨gb3, off3, none⟩) 2 cap3)).heap.size) := hA.2.2.1.size
    have HW4 : Hid (Wk (w3.setCell ⟨b, 0, none⟩ (.slice (some ⟨gb3, off3, none⟩) 2 cap3)) b a ds { hands := [v - 1, v - 1], kind := kd, act := x.act, ended := x.ended } (g' ++ ((some ob).toList ++ (none : Option Nat).toList))) :=
      ⟨_, g', some ob, none, rfl, HR4.out, HH4.out, by show DoB _ a ds (some ob) none x.act; rw [HO.out.2.2.2.2.1]; exact ⟨rfl, ob, d, rfl, HO.out.2.2.2.1, hA.2.2.2⟩⟩
    have HW4r : Hid (WkR (w3.setCell ⟨b, 0, none⟩ (.slice (some ⟨gb3, off3, none⟩) 2 cap3)) b (wkCells (.slice (some ⟨gb3, off3, none⟩) 2 cap3) (some ⟨ob, 0, none⟩) kd none x.ended)) := HR4.out
    clear hA q1 q2 q3 t4 HQ HR3 HR4 HH4 HA2 HA1 HWr HNb y0 y1 f0 f0' f2' c3' zc'
    generalize w3.setCell ⟨b, 0, none⟩ (.slice (some ⟨gb3, off3, none⟩) 2 cap3) = w4 at *
    refine (HN.out w4 [v - 1, v - 1] _ HA3.out.1 HA3.out.2.1 HW4.out).mono ?_
    rintro e w5 ⟨rfl, hB5, t5⟩
    have HB5 := hide hB5
    have HC5 := hide (And.intro (HA3.out.1.keep HW4.out (by simp) t5) (And.intro (HA3.out.2.1.turnedb HW4r.out t5) (HA3.out.2.2.1.trans (t5.mono (by simp)))))
    clear hB5 t5
    go_wp2_with fail
    go_ret
    obtain ⟨B5, r1, r2⟩ := HB5.out
    refine ⟨rfl, ⟨B5, by simpa [hv0] using r1, fun y hy => ?_⟩, HC5.out.1, HC5.out.2.1, HC5.out.2.2⟩
    rcases r2 y hy with h | h
    · simp at h
      rcases h with h | rfl
      · exact HG.out y h
      · exact .inl HO.out.2.1
    · have := HSz4.out
      right; omega
  · go_wp2_with fail
    clear f2' c3' zc'
    generalize w1.setCell ⟨C, 3, none⟩ (.int .i64 (dn + 1)) = w2 at *
    have HX2 : Hid (Wk w2 b a ds { hands := [], kind := kd, act := x.act, ended := x.ended } B) := by
      have := HA1.out.2.2.1
      rw [HE.out] at this
      exact this
    refine (HN.out w2 [] B HA1.out.1 HA1.out.2.1 HX2.out).mono ?_
    rintro e w5 ⟨rfl, hB5, t5⟩
    have HB5 := hide hB5
    have HC5 := hide (And.intro (HA1.out.1.turnedb HA1.out.2.2.2.1 t5) (And.intro (HA1.out.2.1.turnedb HA1.out.2.2.2.1 t5) (HA1.out.2.2.2.2.2.trans (t5.mono (by simp)))))
    have HSz2 := hide (HA1.out.2.2.2.2.2.size)
    clear hB5 t5 HA1
    go_wp2_with fail
    go_ret
    obtain ⟨B5, r1, r2⟩ := HB5.out
    refine ⟨rfl, ⟨B5, by simpa [hv0] using r1, fun y hy => ?_⟩, HC5.out.1, HC5.out.2.1, HC5.out.2.2⟩
    rcases r2 y hy with h | h
    · exact .inl h
    · have := HSz2.out
      right; omega
end
end Go.Proofs.Ytokabpgdklihlaa

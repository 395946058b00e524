/-
  Wake and Pick of the document's own tasks.
-/
import Derived.Test.YtopoklciglgkbaaRefTurns
import Derived.Deep.RegionHeld3
namespace Go.Proofs.Ytopoklciglgkbaa
open Go.RowKit
set_option linter.unusedVariables false

/-- A cell of a row is stored. -/
theorem ownsRow_set {w : World} {B g n cap : Nat} {e : TypeId} {xs : List Value} (h : w.ownsRow B e 1 (.slice (some ⟨g, 0, none⟩) n cap) n xs) (i : Nat) (v : Value) :
    (w.setCell ⟨g, i, none⟩ v).ownsRow B e 1 (.slice (some ⟨g, 0, none⟩) n cap) n (xs.set i v) := by
  obtain ⟨h1, h2⟩ := h
  refine ⟨by simpa using h1, ?_⟩
  rcases h2 with ⟨h2, _⟩ | ⟨g2, cap2, cur, hv, hg, hh, hc, hm, hs, ht⟩
  · cases h2
  · have e1 : g = g2 ∧ cap = cap2 := by simpa using hv
    obtain ⟨rfl, rfl⟩ := e1
    refine .inr ⟨g, cap, cur.setIfInBounds i v, rfl, hg, heap_setCell_at w g i _ _ _ hh v, hc, hm, by simpa using hs, ?_⟩
    rw [Array.toList_setIfInBounds, ← ht, List.take_set]

section
variable {B : Nat} {w : World} {q : Nat} {G : List Nat} {ts : List Task} {ls : List Sl}
/-- A state is stored. -/
theorem Rf.setst (h : Rf B w q G ts ls) {g cap i : Nat} {t : Task} (hc : w.cell? ⟨q, 1, none⟩ = some (.slice (some ⟨g, 0, none⟩) ts.length cap)) (ht : ts[i]? = some t) (s : Int) :
    Rf B (w.setCell ⟨g, i, none⟩ (.int .i64 s)) q G (ts.set i { t with st := s }) ls ∧ Turned G w (w.setCell ⟨g, i, none⟩ (.int .i64 s)) := by
  obtain ⟨vt, vs, vn, h1, h2, h3, h4, h5, h6⟩ := h.head
  have e1 : vs = .slice (some ⟨g, 0, none⟩) ts.length cap := by
    rw [cell_of_heap h1] at hc
    simpa using hc
  subst e1
  have hgG : g ∈ G := h5 g (.inr (.inl rfl))
  obtain ⟨_, hgw, c, hgc⟩ := ownsRow_lt h3 g rfl
  have hT : Turned G w (w.setCell ⟨g, i, none⟩ (.int .i64 s)) := (Turned.refl _ _).setCell (.inl hgG) _
  have hq : q ≠ g := fun e => by rw [← e, h1] at hgc; simp at hgc
  have ho : ∀ k, k ≠ g → (w.setCell ⟨g, i, none⟩ (.int .i64 s)).heap[k]? = w.heap[k]? := fun k hk => Below.heap_setCell _ _ _ _ hk
  have hvt : ∀ k, vt.ownBlock = some k → k ≠ g := fun k hk e => by
    obtain ⟨_, _, c2, hc2⟩ := ownsRow_lt h2 k hk
    rw [e, hgc] at hc2
    simp at hc2
  have em : (ts.set i { t with st := s }).map (fun t => Value.int .i64 t.n) = ts.map (fun t => Value.int .i64 t.n) := by
    rw [List.map_set]
    exact list_set_self (by rw [List.getElem?_map, ht]; rfl)
  refine ⟨⟨⟨vt, _, vn, by rw [ho q hq]; exact h1, ?_, ?_, ?_, h5, h6⟩, h.qG, by simpa using h.len, ?_, ?_, fun k hk => ⟨(h.lo k hk).1, by have := (h.lo k hk).2; simpa [World.setCell] using this⟩, by simpa using h.room⟩, hT⟩
  · rw [List.length_set]
    exact ownsRow_keep h2 (fun k hk => ho k (hvt k hk))
  · have h7 := ownsRow_set h3 i (.int .i64 s)
    rw [List.length_set, List.map_set]
    exact h7
  · rw [List.length_set, em]
    exact ownsRow_keep h4 (fun k hk => ho k (fun e => h6 g rfl (by rw [← e]; exact hk)))
  · intro j u sl hu hsl
    rw [List.getElem?_set] at hu
    split at hu
    · rename_i e
      split at hu
      · injection hu with hu
        subst hu
        rw [← e] at hsl
        exact h.tell i t sl ht hsl
      · cases hu
    · exact h.tell j u sl hu hsl
  · intro sl hsl
    obtain ⟨a1, a2, a3⟩ := h.rd sl hsl
    refine ⟨a1, a2, fun j x hx => ?_⟩
    obtain ⟨g2, off, b1, b2, b3⟩ := a3 j x hx
    refine ⟨g2, off, b1, b2, ?_⟩
    rw [World.cell?_of_block (w := w) (ho g2 (fun e => by have := (h.lo g hgG).1; omega))]
    exact b3
/-- A number of steps is stored. -/
theorem Rf.setn (h : Rf B w q G ts ls) {g cap i : Nat} {t : Task} (hc : w.cell? ⟨q, 2, none⟩ = some (.slice (some ⟨g, 0, none⟩) ts.length cap)) (ht : ts[i]? = some t) (s : Int) :
    Rf B (w.setCell ⟨g, i, none⟩ (.int .i64 s)) q G (ts.set i { t with n := s }) ls ∧ Turned G w (w.setCell ⟨g, i, none⟩ (.int .i64 s)) := by
  obtain ⟨vt, vs, vn, h1, h2, h3, h4, h5, h6⟩ := h.head
  have e1 : vn = .slice (some ⟨g, 0, none⟩) ts.length cap := by
    rw [cell_of_heap h1] at hc
    simpa using hc
  subst e1
  have hgG : g ∈ G := h5 g (.inr (.inr rfl))
  obtain ⟨_, hgw, c, hgc⟩ := ownsRow_lt h4 g rfl
  have hT : Turned G w (w.setCell ⟨g, i, none⟩ (.int .i64 s)) := (Turned.refl _ _).setCell (.inl hgG) _
  have hq : q ≠ g := fun e => by rw [← e, h1] at hgc; simp at hgc
  have ho : ∀ k, k ≠ g → (w.setCell ⟨g, i, none⟩ (.int .i64 s)).heap[k]? = w.heap[k]? := fun k hk => Below.heap_setCell _ _ _ _ hk
  have hvt : ∀ k, vt.ownBlock = some k → k ≠ g := fun k hk e => by
    obtain ⟨_, _, c2, hc2⟩ := ownsRow_lt h2 k hk
    rw [e, hgc] at hc2
    simp at hc2
  have em : (ts.set i { t with n := s }).map (fun t => Value.int .i64 t.st) = ts.map (fun t => Value.int .i64 t.st) := by
    rw [List.map_set]
    exact list_set_self (by rw [List.getElem?_map, ht]; rfl)
  refine ⟨⟨⟨vt, vs, _, by rw [ho q hq]; exact h1, ?_, ?_, ?_, h5, h6⟩, h.qG, by simpa using h.len, ?_, ?_, fun k hk => ⟨(h.lo k hk).1, by have := (h.lo k hk).2; simpa [World.setCell] using this⟩, by simpa using h.room⟩, hT⟩
  · rw [List.length_set]
    exact ownsRow_keep h2 (fun k hk => ho k (hvt k hk))
  · rw [List.length_set, em]
    exact ownsRow_keep h3 (fun k hk => ho k (fun e => h6 k hk (by rw [e]; rfl)))
  · have h7 := ownsRow_set h4 i (.int .i64 s)
    rw [List.length_set, List.map_set]
    exact h7
  · intro j u sl hu hsl
    rw [List.getElem?_set] at hu
    split at hu
    · rename_i e
      split at hu
      · injection hu with hu
        subst hu
        rw [← e] at hsl
        exact h.tell i t sl ht hsl
      · cases hu
    · exact h.tell j u sl hu hsl
  · intro sl hsl
    obtain ⟨a1, a2, a3⟩ := h.rd sl hsl
    refine ⟨a1, a2, fun j x hx => ?_⟩
    obtain ⟨g2, off, b1, b2, b3⟩ := a3 j x hx
    refine ⟨g2, off, b1, b2, ?_⟩
    rw [World.cell?_of_block (w := w) (ho g2 (fun e => by have := (h.lo g hgG).1; omega))]
    exact b3
/-- All three rows at a task's place. -/
theorem Rf.rows (h : Rf B w q G ts ls) {i : Nat} {t : Task} (ht : ts[i]? = some t) : ∃ gt ct gs cs gn cn s, ls[i]? = some s ∧ w.cell? ⟨q, 0, none⟩ = some (.slice (some ⟨gt, 0, none⟩) ts.length ct) ∧ w.cell? ⟨q, 1, none⟩ = some (.slice (some ⟨gs, 0, none⟩) ts.length cs) ∧ w.cell? ⟨q, 2, none⟩ = some (.slice (some ⟨gn, 0, none⟩) ts.length cn) ∧
    w.cell? ⟨gt, i, none⟩ = some (.slice s.ao s.len s.cap) ∧ w.cell? ⟨gs, i, none⟩ = some (.int .i64 t.st) ∧ w.cell? ⟨gn, i, none⟩ = some (.int .i64 t.n) ∧ w.frozen? ⟨gs, i, none⟩ = false ∧ w.frozen? ⟨gn, i, none⟩ = false := by
  obtain ⟨vt, vs, vn, h1, h2, h3, h4, h5, h6⟩ := h.head
  have hlt := (List.getElem?_eq_some_iff.1 ht).1
  obtain ⟨s, hs⟩ : ∃ s, ls[i]? = some s := ⟨_, List.getElem?_eq_getElem (by rw [h.len]; exact hlt)⟩
  obtain ⟨gt, ct, rfl, _, _, _, t1, _⟩ := ownsRow_open h2 (by omega)
  obtain ⟨gs, cs, rfl, _, _, _, s1, s2, _⟩ := ownsRow_open h3 (by omega)
  obtain ⟨gn, cn, rfl, _, _, _, n1, n2, _⟩ := ownsRow_open h4 (by omega)
  refine ⟨gt, ct, gs, cs, gn, cn, s, hs, by rw [cell_of_heap h1]; rfl, by rw [cell_of_heap h1]; rfl, by rw [cell_of_heap h1]; rfl, t1 i _ (by rw [List.getElem?_map, hs]; rfl), s1 i _ (by rw [List.getElem?_map, ht]; rfl), n1 i _ (by rw [List.getElem?_map, ht]; rfl), s2 i, n2 i⟩
end

theorem Rf.ne {B : Nat} {w : World} {q : Nat} {G : List Nat} {ts : List Task} {ls : List Sl} (h : Rf B w q G ts ls) {gt ct gs cs gn cn : Nat} (c0 : w.cell? ⟨q, 0, none⟩ = some (.slice (some ⟨gt, 0, none⟩) ts.length ct)) (c1 : w.cell? ⟨q, 1, none⟩ = some (.slice (some ⟨gs, 0, none⟩) ts.length cs)) (c2 : w.cell? ⟨q, 2, none⟩ = some (.slice (some ⟨gn, 0, none⟩) ts.length cn)) : q ≠ gs ∧ gt ≠ gs ∧ gn ≠ gs := by
  obtain ⟨vt, vs, vn, h1, h2, h3, h4, h5, h6⟩ := h.head
  rw [cell_of_heap h1] at c0 c1 c2
  have e0 : vt = .slice (some ⟨gt, 0, none⟩) ts.length ct := by simpa using c0
  have e1 : vs = .slice (some ⟨gs, 0, none⟩) ts.length cs := by simpa using c1
  have e2 : vn = .slice (some ⟨gn, 0, none⟩) ts.length cn := by simpa using c2
  subst e0 e1 e2
  obtain ⟨_, _, c, hc⟩ := ownsRow_lt h3 gs rfl
  obtain ⟨_, _, d, hd⟩ := ownsRow_lt h2 gt rfl
  refine ⟨fun e => ?_, fun e => ?_, fun e => ?_⟩
  · rw [← e, h1] at hc; simp at hc
  · rw [e, hc] at hd; simp at hd
  · exact h6 gs rfl (by rw [e]; rfl)

theorem rwake_hit (B : Nat) (w : World) (q : Nat) (G : List Nat) (ts : List Task) (ls : List Sl) (i : Nat) (t : Task) (ht : ts[i]? = some t) (hs : t.st = 1) (h : Rf B w q G ts ls) :
    Calls Try.prog 11 #[.pointer (some ⟨q, 0, none⟩), .int .i64 ((i : Int) + 1)] w fun e w' => e = .returned (.int .i64 1) ∧ Rf B w' q G (ts.set i t.woken) ls ∧ Turned G w w' := by
  obtain ⟨gt, ct, gs, cs, gn, cn, s, _, c0, c1, c2, d0, d1, d2, f1, f2⟩ := h.rows ht
  have HS := hide (h.setst c1 ht 0)
  have hlt := (List.getElem?_eq_some_iff.1 ht).1
  have hroom := h.room
  rw [hs] at d1
  have e1 : 1 ≤ (i : Int) + 1 := by omega
  have e2 : (i : Int) + 1 ≤ (ts.length : Int) := by omega
  have e3 : wrap64 ((i : Int) + 1 - 1) = (i : Int) := by unfold wrap64; omega
  clear h ht c0 c2 d0 d2 f2
  go_enter Try.func11, Try.ntmps11
  go_wp2
  go_ret
  exact ⟨rfl, HS.out⟩

theorem rwake_miss (B : Nat) (w : World) (q : Nat) (G : List Nat) (ts : List Task) (ls : List Sl) (k : Int) (hk : k < 1 ∨ (ts.length : Int) < k) (h : Rf B w q G ts ls) :
    Calls Try.prog 11 #[.pointer (some ⟨q, 0, none⟩), .int .i64 k] w fun e w' => e = .returned (.int .i64 0) ∧ w' = w := by
  obtain ⟨ao, cap, h0, _⟩ := h.st
  have hroom := h.room
  clear h
  by_cases h1 : k < 1
  · clear hk
    go_enter Try.func11, Try.ntmps11
    go_wp2
    go_ret
    exact ⟨rfl, rfl⟩
  · have h2 : (ts.length : Int) < k := by omega
    clear hk
    go_enter Try.func11, Try.ntmps11
    go_wp2
    go_ret
    exact ⟨rfl, rfl⟩
theorem rwake_not (B : Nat) (w : World) (q : Nat) (G : List Nat) (ts : List Task) (ls : List Sl) (i : Nat) (t : Task) (ht : ts[i]? = some t) (hs : ¬ t.st = 1) (h : Rf B w q G ts ls) :
    Calls Try.prog 11 #[.pointer (some ⟨q, 0, none⟩), .int .i64 ((i : Int) + 1)] w fun e w' => e = .returned (.int .i64 0) ∧ w' = w := by
  obtain ⟨gt, ct, gs, cs, gn, cn, s, _, c0, c1, c2, d0, d1, d2, f1, f2⟩ := h.rows ht
  have hlt := (List.getElem?_eq_some_iff.1 ht).1
  have hroom := h.room
  have e1 : 1 ≤ (i : Int) + 1 := by omega
  have e2 : (i : Int) + 1 ≤ (ts.length : Int) := by omega
  have e3 : wrap64 ((i : Int) + 1 - 1) = (i : Int) := by unfold wrap64; omega
  clear h ht c0 c2 d0 d2 f2
  go_enter Try.func11, Try.ntmps11
  go_wp2
  go_ret
  exact ⟨rfl, rfl⟩
theorem rwake_any (B : Nat) (w : World) (q : Nat) (G : List Nat) (ts : List Task) (ls : List Sl) (k : Int) (h : Rf B w q G ts ls) :
    Calls Try.prog 11 #[.pointer (some ⟨q, 0, none⟩), .int .i64 k] w fun e w' => e = .returned (.int .i64 ((waits1 (states ts) k : Nat) : Int)) ∧ Rf B w' q G (wake1 ts k) ls ∧ Turned G w w' := by
  by_cases hin : 1 ≤ k ∧ k ≤ ts.length
  · obtain ⟨i, rfl⟩ : ∃ i : Nat, k = (i : Int) + 1 := ⟨(k - 1).toNat, by omega⟩
    have ei : ((i : Int) + 1 - 1).toNat = i := by omega
    obtain ⟨t, ht⟩ : ∃ t, ts[i]? = some t := ⟨_, List.getElem?_eq_getElem (by omega)⟩
    by_cases hs : t.st = 1
    · have hW : wake1 ts ((i : Int) + 1) = ts.set i t.woken := by unfold wake1; rw [ei, ht]; simp [hs]; omega
      have hV : waits1 (states ts) ((i : Int) + 1) = 1 := by unfold waits1 states; rw [ei, List.getElem?_map, ht]; simp [hs]; omega
      rw [hW, hV]
      exact rwake_hit B w q G ts ls i t ht hs h
    · have hW : wake1 ts ((i : Int) + 1) = ts := by unfold wake1; rw [ei, ht]; simp [hs]
      have hV : waits1 (states ts) ((i : Int) + 1) = 0 := by unfold waits1 states; rw [ei, List.getElem?_map, ht]; simp [hs]
      rw [hW, hV]
      refine (rwake_not B w q G ts ls i t ht hs h).mono ?_
      rintro e w' ⟨rfl, rfl⟩
      exact ⟨rfl, h, Turned.refl _ _⟩
  · have hW : wake1 ts k = ts := by
      unfold wake1
      split
      · rename_i t ht
        rw [if_neg]
        intro h1
        have h2 := (List.getElem?_eq_some_iff.1 ht).1
        omega
      · rfl
    have hV : waits1 (states ts) k = 0 := by
      unfold waits1 states
      rw [if_neg]
      intro h1
      have h2 := (List.getElem?_eq_some_iff.1 h1.2).1
      simp at h2
      omega
    rw [hW, hV]
    refine (rwake_miss B w q G ts ls k (by omega) h).mono ?_
    rintro e w' ⟨rfl, rfl⟩
    exact ⟨rfl, h, Turned.refl _ _⟩

theorem rpick_none (B : Nat) (w : World) (q : Nat) (G : List Nat) (ts : List Task) (ls : List Sl) (pick : Int) (hr : readyOf ts = []) (h : Rf B w q G ts ls) :
    Calls Try.prog 19 #[.pointer (some ⟨q, 0, none⟩), .int .i64 pick] w fun e w' => e = .returned (.tuple #[.int .i64 0, .bool false]) ∧ Turned [] w w' := by
  have HR := hide (rready_any B w q G ts ls h)
  clear h
  go_enter Try.func19, Try.ntmps19
  go_wp2_with fail
  refine HR.out.mono ?_
  rintro e w1 ⟨v, rfl, h1, h2⟩
  obtain ⟨-, ao, cap, rfl, -⟩ := ownsRow_any h1
  rw [hr]
  clear h1
  go_wp2_with fail
  go_ret2
  exact ⟨rfl, h2⟩

/-- What the document's Pick does to its rows. -/
theorem rpick_two {B : Nat} {w : World} {q : Nat} {G : List Nat} {ts : List Task} {ls : List Sl} (h : Rf B w q G ts ls) {i : Nat} {t : Task} (ht : ts[i]? = some t) {gs cs gn cn : Nat} (c1 : w.cell? ⟨q, 1, none⟩ = some (.slice (some ⟨gs, 0, none⟩) ts.length cs)) (c2 : w.cell? ⟨q, 2, none⟩ = some (.slice (some ⟨gn, 0, none⟩) ts.length cn)) (r m : Int) :
    Rf B ((w.setCell ⟨gs, i, none⟩ (.int .i64 r)).setCell ⟨gn, i, none⟩ (.int .i64 m)) q G (ts.set i { t with st := r, n := m }) ls ∧ Turned G w ((w.setCell ⟨gs, i, none⟩ (.int .i64 r)).setCell ⟨gn, i, none⟩ (.int .i64 m)) := by
  obtain ⟨a1, a2⟩ := h.setst c1 ht r
  have hlt := (List.getElem?_eq_some_iff.1 ht).1
  have ht2 : (ts.set i { t with st := r })[i]? = some { t with st := r } := by rw [List.getElem?_set]; simp [hlt]
  have hgs : gs ≠ q := by
    intro e
    obtain ⟨vt, vs, vn, h1, _, h3, _⟩ := h.head
    rw [cell_of_heap h1] at c1
    have e1 : vs = .slice (some ⟨gs, 0, none⟩) ts.length cs := by simpa using c1
    subst e1
    obtain ⟨_, _, c, hc⟩ := ownsRow_lt h3 gs rfl
    rw [e, h1] at hc
    simp at hc
  have c2' : (w.setCell ⟨gs, i, none⟩ (.int .i64 r)).cell? ⟨q, 2, none⟩ = some (.slice (some ⟨gn, 0, none⟩) (ts.set i { t with st := r }).length cn) := by
    rw [World.cell?_of_block (w := w) (Below.heap_setCell _ _ _ _ (Ne.symm hgs)), List.length_set]
    exact c2
  obtain ⟨b1, b2⟩ := a1.setn c2' ht2 m
  rw [List.set_set] at b1
  exact ⟨b1, a2.trans b2⟩

set_option maxRecDepth 100000 in
set_option maxHeartbeats 4000000 in
theorem rpick_pos (B : Nat) (w : World) (q : Nat) (G : List Nat) (ts : List Task) (ls : List Sl) (pick : Int) (hp : 0 ≤ pick ∧ pick ≤ 9223372036854775807) (i : Nat) (t : Task) (ht : ts[i]? = some t) (hn : 0 ≤ t.n ∧ t.n < 4611686018427387904)
    (hr : (readyOf ts)[placeOf pick (readyOf ts).length]? = some ((i : Int) + 1)) (h : Rf B w q G ts ls) :
    Calls Try.prog 19 #[.pointer (some ⟨q, 0, none⟩), .int .i64 pick] w fun e w' => e = .returned (.tuple #[.int .i64 ((i : Int) + 1), .bool true]) ∧ Rf B w' q G (ts.set i t.adv) ls ∧ Turned G w w' := by
  have HR := hide (rready_any B w q G ts ls h)
  have HH := hide h
  have hlt := (List.getElem?_eq_some_iff.1 ht).1
  have hroom := h.room
  have hlen : placeOf pick (readyOf ts).length < (readyOf ts).length := (List.getElem?_eq_some_iff.1 hr).1
  have hne : ¬ ((readyOf ts).length = 0) := by omega
  have HPl : Hid (((placeOf pick (readyOf ts).length : Nat) : Int) = pick % ((readyOf ts).length : Int)) := by
    show _ = _
    unfold placeOf
    rw [if_neg (by omega)]
    exact Int.toNat_of_nonneg (Int.emod_nonneg _ (by omega))
  have HI := hide hr
  have HTT := hide ht
  generalize placeOf pick (readyOf ts).length = j at *
  have e3 : wrap64 ((i : Int) + 1 - 1) = (i : Int) := by unfold wrap64; omega
  have hp0 : ¬ (pick < 0) := by omega
  clear h hr ht
  go_enter Try.func19, Try.ntmps19
  go_wp2_with fail
  refine HR.out.mono ?_
  rintro e w1 ⟨v, rfl, h1, h2⟩
  obtain ⟨-, ao, cap, rfl, hg⟩ := ownsRow_any h1
  have HH1 := hide (HH.out.same h2)
  have HT1 := hide h2
  obtain ⟨g, rfl, -, -, hg, -⟩ := hg j _ (by rw [List.getElem?_map, HI.out]; rfl)
  have hg2 : w1.cell? ⟨g, (pick % ((readyOf ts).length : Int)).toNat, none⟩ = some (.int .i64 ((i : Int) + 1)) := by rw [← HPl.out]; exact hg
  have hb1 : 0 ≤ pick % ((readyOf ts).length : Int) := by rw [← HPl.out]; omega
  have hb2 : pick % ((readyOf ts).length : Int) < ((readyOf ts).length : Int) := by rw [← HPl.out]; omega
  clear h1 HR h2 hg
  obtain ⟨gt, ct, gs, cs, gn, cn, s, hs, c0, c1, c2, d0, d1, d2, f1, f2⟩ := HH1.out.rows HTT.out
  obtain ⟨n1, n2, n3⟩ := HH1.out.ne c0 c1 c2
  obtain ⟨m, hm⟩ := Int.eq_ofNat_of_zero_le hn.1
  have htell := HH1.out.tell i t s HTT.out hs
  have hadv : { t with st := tellOf s.l m, n := (m : Int) + 1 } = t.adv := by
    unfold Task.adv
    rw [htell, hm]
    simp only [Int.toNat_natCast, norm_tell]
  have HFin := hide (rpick_two HH1.out HTT.out c1 c2 (tellOf s.l m) ((m : Int) + 1))
  rw [hadv] at HFin
  obtain ⟨a1, a2, a3⟩ := HH1.out.rd s (List.mem_of_getElem? hs)
  have HTell := hide (fun w2 (h : Rd w2 [] s.ao s.len s.l) => tell_any [] s.ao s.len s.cap s.l m w2 (by omega) (by omega) h)
  have HRd : Hid (Rd w1 [] s.ao s.len s.l) := ⟨a1, fun k x hx => by obtain ⟨g, off, b1, b2, b3⟩ := a3 k x hx; exact ⟨g, off, b1, by simp, b3⟩⟩
  have hmb : m < 4611686018427387904 := by omega
  rw [hm] at d2
  have k0 : (w1.setCell ⟨gs, i, none⟩ (.int .i64 (tellOf s.l m))).cell? ⟨q, 0, none⟩ = some (.slice (some ⟨gt, 0, none⟩) ts.length ct) := by rw [World.cell?_of_block (w := w1) (Below.heap_setCell _ _ _ _ n1)]; exact c0
  have k1 : (w1.setCell ⟨gs, i, none⟩ (.int .i64 (tellOf s.l m))).cell? ⟨q, 1, none⟩ = some (.slice (some ⟨gs, 0, none⟩) ts.length cs) := by rw [World.cell?_of_block (w := w1) (Below.heap_setCell _ _ _ _ n1)]; exact c1
  have k2 : (w1.setCell ⟨gs, i, none⟩ (.int .i64 (tellOf s.l m))).cell? ⟨q, 2, none⟩ = some (.slice (some ⟨gn, 0, none⟩) ts.length cn) := by rw [World.cell?_of_block (w := w1) (Below.heap_setCell _ _ _ _ n1)]; exact c2
  have k3 : (w1.setCell ⟨gs, i, none⟩ (.int .i64 (tellOf s.l m))).cell? ⟨gt, i, none⟩ = some (.slice s.ao s.len s.cap) := by rw [World.cell?_of_block (w := w1) (Below.heap_setCell _ _ _ _ n2)]; exact d0
  have k4 : (w1.setCell ⟨gs, i, none⟩ (.int .i64 (tellOf s.l m))).cell? ⟨gn, i, none⟩ = some (.int .i64 (m : Int)) := by rw [World.cell?_of_block (w := w1) (Below.heap_setCell _ _ _ _ n3)]; exact d2
  have k5 : (w1.setCell ⟨gs, i, none⟩ (.int .i64 (tellOf s.l m))).frozen? ⟨gn, i, none⟩ = false := by rw [World.frozen?_of_block (w := w1) (Below.heap_setCell _ _ _ _ n3)]; exact f2
  have e5 : wrap64 ((m : Int) + 1) = (m : Int) + 1 := by unfold wrap64; omega
  have e6 : IntKind.i64.wrap ((i : Int) + 1 - 1) = (i : Int) := by rw [IntKind.wrap_i64]; omega
  have e7 : IntKind.i64.wrap (i : Int) = (i : Int) := by rw [IntKind.wrap_i64]; omega
  have i0 : (0 : Int) ≤ (i : Int) := by omega
  have i1 : (i : Int) < (ts.length : Int) := by omega
  have i2 : ¬ ((ts.length : Int) ≤ (i : Int)) := by omega
  have i3 : ¬ ((i : Int) < 0) := by omega
  clear hadv htell hm hs a1 a2 a3 n1 n2 n3
  go_wp2_with fail
  go_region_held3 (fun w' => w'.cell? ⟨q, 0, none⟩ = some (.slice (some ⟨gt, 0, none⟩) ts.length ct) ∧ w'.cell? ⟨q, 1, none⟩ = some (.slice (some ⟨gs, 0, none⟩) ts.length cs) ∧ w'.cell? ⟨q, 2, none⟩ = some (.slice (some ⟨gn, 0, none⟩) ts.length cn) ∧ w'.cell? ⟨gt, i, none⟩ = some (.slice s.ao s.len s.cap) ∧ w'.cell? ⟨gn, i, none⟩ = some (.int .i64 (m : Int))) (go_keep)
    (first
      | (go_at_call 32; refine (HTell.out _ (HRd.out.turned (Turned.refl [] w1).drew (by simp))).mono ?_; rintro e w2 ⟨rfl, rfl⟩))
  go_wp2_with fail
  go_ret2
  have HTF := hide ((HT1.out.mono (T := G) (by simp)).trans HFin.out.2)
  exact ⟨rfl, by first | exact HFin.out.1 | exact HFin.out.1.same (Turned.refl _ _).drew, by first | exact HTF.out | exact HTF.out.drew⟩

set_option maxRecDepth 100000 in
set_option maxHeartbeats 4000000 in
theorem rpick_neg (B : Nat) (w : World) (q : Nat) (G : List Nat) (ts : List Task) (ls : List Sl) (pick : Int) (hp : -9223372036854775808 ≤ pick ∧ pick < 0) (i : Nat) (t : Task) (ht : ts[i]? = some t) (hn : 0 ≤ t.n ∧ t.n < 4611686018427387904)
    (hr : (readyOf ts)[placeOf pick (readyOf ts).length]? = some ((i : Int) + 1)) (h : Rf B w q G ts ls) :
    Calls Try.prog 19 #[.pointer (some ⟨q, 0, none⟩), .int .i64 pick] w fun e w' => e = .returned (.tuple #[.int .i64 ((i : Int) + 1), .bool true]) ∧ Rf B w' q G (ts.set i t.adv) ls ∧ Turned G w w' := by
  have HR := hide (rready_any B w q G ts ls h)
  have HH := hide h
  have hlt := (List.getElem?_eq_some_iff.1 ht).1
  have hroom := h.room
  have hlen : placeOf pick (readyOf ts).length < (readyOf ts).length := (List.getElem?_eq_some_iff.1 hr).1
  have hne : ¬ ((readyOf ts).length = 0) := by omega
  have HPl : Hid (((placeOf pick (readyOf ts).length : Nat) : Int) = -((pick + 1).tmod ((readyOf ts).length : Int))) := by
    show _ = _
    unfold placeOf
    rw [if_pos hp.2, ← Int.neg_tmod, Int.tmod_eq_emod_of_nonneg (by omega)]
    exact Int.toNat_of_nonneg (Int.emod_nonneg _ (by omega))
  have HI := hide hr
  have HTT := hide ht
  generalize placeOf pick (readyOf ts).length = j at *
  have e3 : wrap64 ((i : Int) + 1 - 1) = (i : Int) := by unfold wrap64; omega
  have hp0 : pick < 0 := hp.2
  have e1 : wrap64 (pick + 1) = pick + 1 := by unfold wrap64; omega
  have e2 : wrap64 (-(pick + 1)) = -(pick + 1) := by unfold wrap64; omega
  clear h hr ht
  go_enter Try.func19, Try.ntmps19
  go_wp2_with fail
  refine HR.out.mono ?_
  rintro e w1 ⟨v, rfl, h1, h2⟩
  obtain ⟨-, ao, cap, rfl, hg⟩ := ownsRow_any h1
  have HH1 := hide (HH.out.same h2)
  have HT1 := hide h2
  obtain ⟨g, rfl, -, -, hg, -⟩ := hg j _ (by rw [List.getElem?_map, HI.out]; rfl)
  have hg2 : w1.cell? ⟨g, (-((pick + 1).tmod ((readyOf ts).length : Int))).toNat, none⟩ = some (.int .i64 ((i : Int) + 1)) := by rw [← HPl.out]; exact hg
  have hb1 : 0 ≤ -((pick + 1).tmod ((readyOf ts).length : Int)) := by rw [← HPl.out]; omega
  have hb2 : -((pick + 1).tmod ((readyOf ts).length : Int)) < ((readyOf ts).length : Int) := by rw [← HPl.out]; omega
  clear h1 HR h2 hg
  obtain ⟨gt, ct, gs, cs, gn, cn, s, hs, c0, c1, c2, d0, d1, d2, f1, f2⟩ := HH1.out.rows HTT.out
  obtain ⟨n1, n2, n3⟩ := HH1.out.ne c0 c1 c2
  obtain ⟨m, hm⟩ := Int.eq_ofNat_of_zero_le hn.1
  have htell := HH1.out.tell i t s HTT.out hs
  have hadv : { t with st := tellOf s.l m, n := (m : Int) + 1 } = t.adv := by
    unfold Task.adv
    rw [htell, hm]
    simp only [Int.toNat_natCast, norm_tell]
  have HFin := hide (rpick_two HH1.out HTT.out c1 c2 (tellOf s.l m) ((m : Int) + 1))
  rw [hadv] at HFin
  obtain ⟨a1, a2, a3⟩ := HH1.out.rd s (List.mem_of_getElem? hs)
  have HTell := hide (fun w2 (h : Rd w2 [] s.ao s.len s.l) => tell_any [] s.ao s.len s.cap s.l m w2 (by omega) (by omega) h)
  have HRd : Hid (Rd w1 [] s.ao s.len s.l) := ⟨a1, fun k x hx => by obtain ⟨g, off, b1, b2, b3⟩ := a3 k x hx; exact ⟨g, off, b1, by simp, b3⟩⟩
  have hmb : m < 4611686018427387904 := by omega
  rw [hm] at d2
  have k0 : (w1.setCell ⟨gs, i, none⟩ (.int .i64 (tellOf s.l m))).cell? ⟨q, 0, none⟩ = some (.slice (some ⟨gt, 0, none⟩) ts.length ct) := by rw [World.cell?_of_block (w := w1) (Below.heap_setCell _ _ _ _ n1)]; exact c0
  have k1 : (w1.setCell ⟨gs, i, none⟩ (.int .i64 (tellOf s.l m))).cell? ⟨q, 1, none⟩ = some (.slice (some ⟨gs, 0, none⟩) ts.length cs) := by rw [World.cell?_of_block (w := w1) (Below.heap_setCell _ _ _ _ n1)]; exact c1
  have k2 : (w1.setCell ⟨gs, i, none⟩ (.int .i64 (tellOf s.l m))).cell? ⟨q, 2, none⟩ = some (.slice (some ⟨gn, 0, none⟩) ts.length cn) := by rw [World.cell?_of_block (w := w1) (Below.heap_setCell _ _ _ _ n1)]; exact c2
  have k3 : (w1.setCell ⟨gs, i, none⟩ (.int .i64 (tellOf s.l m))).cell? ⟨gt, i, none⟩ = some (.slice s.ao s.len s.cap) := by rw [World.cell?_of_block (w := w1) (Below.heap_setCell _ _ _ _ n2)]; exact d0
  have k4 : (w1.setCell ⟨gs, i, none⟩ (.int .i64 (tellOf s.l m))).cell? ⟨gn, i, none⟩ = some (.int .i64 (m : Int)) := by rw [World.cell?_of_block (w := w1) (Below.heap_setCell _ _ _ _ n3)]; exact d2
  have k5 : (w1.setCell ⟨gs, i, none⟩ (.int .i64 (tellOf s.l m))).frozen? ⟨gn, i, none⟩ = false := by rw [World.frozen?_of_block (w := w1) (Below.heap_setCell _ _ _ _ n3)]; exact f2
  have e5 : wrap64 ((m : Int) + 1) = (m : Int) + 1 := by unfold wrap64; omega
  have e6 : IntKind.i64.wrap ((i : Int) + 1 - 1) = (i : Int) := by rw [IntKind.wrap_i64]; omega
  have e7 : IntKind.i64.wrap (i : Int) = (i : Int) := by rw [IntKind.wrap_i64]; omega
  have i0 : (0 : Int) ≤ (i : Int) := by omega
  have i1 : (i : Int) < (ts.length : Int) := by omega
  have i2 : ¬ ((ts.length : Int) ≤ (i : Int)) := by omega
  have i3 : ¬ ((i : Int) < 0) := by omega
  clear hadv htell hm hs a1 a2 a3 n1 n2 n3
  go_wp2_with fail
  go_region_held3 (fun w' => w'.cell? ⟨q, 0, none⟩ = some (.slice (some ⟨gt, 0, none⟩) ts.length ct) ∧ w'.cell? ⟨q, 1, none⟩ = some (.slice (some ⟨gs, 0, none⟩) ts.length cs) ∧ w'.cell? ⟨q, 2, none⟩ = some (.slice (some ⟨gn, 0, none⟩) ts.length cn) ∧ w'.cell? ⟨gt, i, none⟩ = some (.slice s.ao s.len s.cap) ∧ w'.cell? ⟨gn, i, none⟩ = some (.int .i64 (m : Int))) (go_keep)
    (first
      | (go_at_call 32; refine (HTell.out _ (HRd.out.turned (Turned.refl [] w1).drew (by simp))).mono ?_; rintro e w2 ⟨rfl, rfl⟩))
  go_wp2_with fail
  go_ret2
  have HTF := hide ((HT1.out.mono (T := G) (by simp)).trans HFin.out.2)
  exact ⟨rfl, by first | exact HFin.out.1 | exact HFin.out.1.same (Turned.refl _ _).drew, by first | exact HTF.out | exact HTF.out.drew⟩

theorem rpick_any (B : Nat) (w : World) (q : Nat) (G : List Nat) (ts : List Task) (ls : List Sl) (pick : Int) (hp : -9223372036854775808 ≤ pick ∧ pick ≤ 9223372036854775807) (N : Int) (hN : N < 4611686018427387904) (hlim : Lim N ts) (h : Rf B w q G ts ls) :
    Calls Try.prog 19 #[.pointer (some ⟨q, 0, none⟩), .int .i64 pick] w fun e w' =>
      e = .returned (.tuple #[.int .i64 (pickNum ts pick), .bool (pickOf ts pick).isSome]) ∧ Rf B w' q G (pickTo ts pick) ls ∧ Turned G w w' := by
  cases hpk : pickOf ts pick with
  | none =>
    refine (rpick_none B w q G ts ls pick (pickOf_none hpk) h).mono ?_
    rintro e w' ⟨rfl, hT⟩
    unfold pickNum pickTo
    rw [hpk]
    exact ⟨rfl, h.same hT, hT.mono (by simp)⟩
  | some i =>
    obtain ⟨t, ht, hst, hr⟩ := pickOf_some hpk
    have hl := hlim t (List.mem_of_getElem? ht)
    have e1 : pickNum ts pick = (i : Int) + 1 := by unfold pickNum; rw [hpk]
    have e2 : pickTo ts pick = ts.set i t.adv := by unfold pickTo; rw [hpk]; simp [ht]
    rw [e1, e2]
    by_cases h0 : pick < 0
    · exact rpick_neg B w q G ts ls pick ⟨hp.1, h0⟩ i t ht ⟨hl.1, by omega⟩ hr h
    · exact rpick_pos B w q G ts ls pick ⟨by omega, hp.2⟩ i t ht ⟨hl.1, by omega⟩ hr h
end Go.Proofs.Ytopoklciglgkbaa

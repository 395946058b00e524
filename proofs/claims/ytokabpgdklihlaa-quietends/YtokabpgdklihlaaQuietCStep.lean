/-
  The crew of the law QuietEnds: a worker's step ('cstep_any').
-/
import Derived.Test.YtokabpgdklihlaaQuietGang
import Derived.Test.YtokabpgdklihlaaQuietWorkP
namespace Go.Proofs.Ytokabpgdklihlaa
open Go.RowKit

section
variable (w : World) (C gw gd a p q b k : Nat) (ws ds : List Nat) (Q : QC) (l : List Int) (s dn : Int)
theorem cover_any (x : WkS) (B : List Nat) (j : Nat) (o : OpS) (hxa : x.act = .op j o) (hok : OverOk x (valOf o).1 (valOf o).2) (hdn : 0 ≤ dn ∧ dn ≤ 100000) (hq : q ∉ B) (hk : ws[k]? = some b) (hC : Cw w C gw gd a ws ds dn) (hs : Sh w a p q ds Q l s) (hx : Wk w b a ds x B) :
    Calls Try.prog 25 #[.pointer (some ⟨C, 0, none⟩), .int .i64 k] w fun e w' => e = .returned (.bool true) ∧ (∃ B', Wk w' b a ds (overS ds.length k x (valOf o).1 (valOf o).2).1 B' ∧ ∀ y, y ∈ B' → y ∈ B ∨ w.heap.size ≤ y) ∧ Cw w' C gw gd a ws ds (dn + (overS ds.length k x (valOf o).1 (valOf o).2).2.1) ∧ Sh w' a p q ds Q l s ∧ Turned (C :: b :: B) w w' := by
  obtain ⟨cb, hcb⟩ := hx.raw
  rcases hok with ⟨h1, h2, h3⟩ | ⟨h1, h1', h2, h3, h4⟩ | ⟨h1, h1', h2⟩
  · obtain ⟨y, T, hT⟩ : ∃ y T, x.hands = y :: T := by
      cases hx : x.hands with
      | nil => exact absurd hx h3
      | cons y T => exact ⟨y, T, rfl⟩
    refine (cover_push w C gw gd a p q b k ws ds Q l s dn x B j o hxa y T hT h1 h2 hk hC hs hx).mono ?_
    rintro e w' ⟨rfl, r1, t⟩
    have e0 : (overS ds.length k x (valOf o).1 (valOf o).2).2.1 = 0 := by unfold overS; rw [if_pos h1, if_pos h2]
    rw [e0, Int.add_zero]
    exact ⟨rfl, r1, hC.turnedb hcb t, hs.turnedb hcb t, t.mono (by simp)⟩
  · refine (cover_item w C gw gd a p q b k ws ds Q l s dn x B j o hxa h2 ⟨h1, h1'⟩ h3 h4 hdn hq hk hC hs hx).mono ?_
    rintro e w' ⟨rfl, r1, r2, r3, t⟩
    have e0 : (overS ds.length k x (valOf o).1 (valOf o).2).2.1 = 1 := by unfold overS; rw [if_neg (by omega), if_pos h3]
    rw [e0]
    exact ⟨rfl, r1, r2, r3, t⟩
  · refine (cover_other w C gw gd a p q b k ws ds Q l s dn x B j o hxa ⟨h1, h1'⟩ h2 hk hC hs hx).mono ?_
    rintro e w' ⟨rfl, r1, t⟩
    have e0 : (overS ds.length k x (valOf o).1 (valOf o).2).2.1 = 0 := by
      unfold overS
      rw [if_neg (by omega), if_neg (by omega)]
      split <;> rfl
    rw [e0, Int.add_zero]
    exact ⟨rfl, r1, hC.turnedb hcb t, hs.turnedb hcb t, t.mono (by simp)⟩
end

section
variable (w0 w : World) (C gw gd a p q k b : Nat) (ws ds : List Nat) (Q : QC) (S : GS) (Bs : Nat → List Nat)

theorem cstep_ended (h : GangB w0 w C gw gd a p q ws ds Q S Bs) (hk : ws[k]? = some b) (he : (S.X k).ended = true) :
    Calls Try.prog 11 #[.pointer (some ⟨C, 0, none⟩), .int .i64 k] w fun e w' => e = .returned (.bool true) ∧ w' = w := by
  have hkl : k < ws.length := (List.getElem?_eq_some_iff.1 hk).1
  have hlen := h.cw.len
  have kw := h.cw.w_ k b hk
  obtain ⟨cw, cd, hh⟩ := h.cw.head
  have c0 : w.cell? ⟨C, 0, none⟩ = some (.slice (some ⟨gw, 0, none⟩) ws.length cw) := by rw [cell_of_heap hh]; rfl
  obtain ⟨hv, g, po, pf, hB, h1, h2, h3⟩ := h.wk k b hk
  have f4 := h1.f 4
  rw [he] at f4
  simp only [wkCells] at f4
  have hw4 : ws.length ≤ 4 := by omega
  generalize ws.length = m at c0 hkl hw4
  clear h hh hlen hk hB h1 h2 h3 he
  go_enter Try.func11, Try.ntmps11
  go_wp2_with fail
  go_ret
  exact ⟨rfl, rfl⟩

set_option maxHeartbeats 2000000 in
theorem cstep_none (h : GangB w0 w C gw gd a p q ws ds Q S Bs) (hk : ws[k]? = some b) (he : (S.X k).ended = false) (ha : (S.X k).act = .none) :
    Calls Try.prog 11 #[.pointer (some ⟨C, 0, none⟩), .int .i64 k] w fun e w' => e = .returned (.bool true) ∧ Gang w0 w' C gw gd a p q ws ds Q ⟨S.l, updX S.X k (nextS ds.length k (S.X k) 0), S.dn⟩ := by
  have hkl : k < ws.length := (List.getElem?_eq_some_iff.1 hk).1
  have hlen := h.cw.len
  have kw := h.cw.w_ k b hk
  obtain ⟨cw, cd, hh⟩ := h.cw.head
  have c0 : w.cell? ⟨C, 0, none⟩ = some (.slice (some ⟨gw, 0, none⟩) ws.length cw) := by rw [cell_of_heap hh]; rfl
  have hx := h.wk k b hk
  obtain ⟨hv, g, po, pf, hB, h1, h2, h3⟩ := h.wk k b hk
  rw [ha] at h3
  obtain ⟨rfl, rfl⟩ := h3
  have f4 := h1.f 4
  have f3 := h1.f 3
  have f1 := h1.f 1
  rw [he] at f4
  simp only [wkCells, ptr] at f4 f3 f1
  have hw4 : ws.length ≤ 4 := by omega
  obtain ⟨s, hsh⟩ := h.sh
  have HN := hide (cnext_any w C gw gd a p q b k ws ds Q S.l s S.dn (S.X k) (Bs k) 0 (by omega) hk h.cw hsh hx)
  have HG := hide (And.intro h (And.intro hk (And.intro hsh h1)))
  generalize ws.length = m at c0 hkl hw4
  clear h hh hlen hk hB h1 h2 he hx hsh
  go_enter Try.func11, Try.ntmps11
  go_wp2_with fail
  refine HN.out.mono ?_
  rintro e w1 ⟨rfl, hB, t⟩
  have H1 := hide (And.intro hB t)
  clear hB t HN f1 f3 f4 c0 kw
  go_wp2_with fail
  go_ret
  obtain ⟨⟨B', r1, r2⟩, t⟩ := H1.out
  obtain ⟨h, hk, hsh, hcb⟩ := HG.out
  exact ⟨rfl, h.upd hk (fun y hy => by simp at hy; simp [hy]) t (h.cw.turnedb hcb t) ⟨s, hsh.turnedb hcb t⟩ r1 r2⟩

theorem stepOf_length (C : Cfg) (l : List Int) (o : OpS) : (stepOf C l o).1.length = l.length := by
  unfold stepOf
  split
  · rfl
  · cases o.at_ <;> simp only [wr_length] <;> (try split) <;> first | rfl | exact wr_length _ _ _ _
theorem stepQ_length (Q : QC) (l : List Int) (o : OfS) : (stepQ Q l o).1.length = l.length := by
  unfold stepQ
  split
  · cases o.at_ <;> simp <;> (try split) <;> rfl
  · rfl

/-- Behind an operation's or an offer's step (its block ob is the worker's own). -/
theorem GangB.stepped {w0 w w' : World} {C gw gd a p q k b ob : Nat} {ws ds : List Nat} {Q : QC} {S : GS} {Bs : Nat → List Nat} (h : GangB w0 w C gw gd a p q ws ds Q S Bs) (hk : ws[k]? = some b) (ho : ∃ c e fr, w.heap[ob]? = some (.cells c e fr) ∧ (e = 84 ∨ e = 75)) (t : Turned [p, q, ob] w w') :
    Cw w' C gw gd a ws ds S.dn ∧ ∀ hv g po pf, WkR w b (wkCells hv (ptr po) (S.X k).kind (ptr pf) (S.X k).ended) → Hd w hv (S.X k).hands g → (∀ y, y ∈ g → y ∈ Bs k) → WkR w' b (wkCells hv (ptr po) (S.X k).kind (ptr pf) (S.X k).ended) ∧ Hd w' hv (S.X k).hands g := by
  have hkl : k < ws.length := (List.getElem?_eq_some_iff.1 hk).1
  obtain ⟨s, hsh⟩ := h.sh
  obtain ⟨c, e, fr, h1, h2⟩ := ho
  have hn : ∀ z cc e2 fr2, w.heap[z]? = some (.cells cc e2 fr2) → z ≠ q → e2 ≠ 62 → e2 ≠ 84 → e2 ≠ 75 → z ∉ [p, q, ob] := by
    intro z cc e2 fr2 hz q0 q1 q2 q3
    simp
    refine ⟨ne_of_type hz hsh.mem.head q1, q0, ne_of_type hz h1 ?_⟩
    rcases h2 with rfl | rfl
    · exact q2
    · exact q3
  obtain ⟨⟨cw, cd, g1⟩, _, ⟨c3, f3, g3⟩, ⟨c4, f4, g4⟩, _, _⟩ := h.cw
  refine ⟨h.cw.turned t (hn C _ _ _ g1 (ne_of_type g1 hsh.mem.row (by decide)) (by decide) (by decide) (by decide)) (hn gw _ _ _ g3 (ne_of_type g3 hsh.mem.row (by decide)) (by decide) (by decide) (by decide)) (hn gd _ _ _ g4 (ne_of_type g4 hsh.mem.row (by decide)) (by decide) (by decide) (by decide)), ?_⟩
  intro hv g po pf r1 r2 r3
  refine ⟨r1.turned t (hn b _ _ _ r1 (ne_of_type r1 hsh.mem.row (by decide)) (by decide) (by decide) (by decide)), r2.turned t (fun y hy => ?_)⟩
  rcases r2 with ⟨_, _, rfl⟩ | ⟨gb, off, cap, cc, rfl, _, hh, _⟩
  · simp at hy
  · have hyB := r3 y hy
    simp at hy
    subst hy
    exact hn y _ _ _ hh (fun e => h.nq k hkl (e ▸ hyB)) (by decide) (by decide) (by decide)

set_option maxHeartbeats 4000000 in
theorem cstep_op (j : Nat) (o : OpS) (h : GangB w0 w C gw gd a p q ws ds Q S Bs) (hk : ws[k]? = some b) (he : (S.X k).ended = false) (ha : (S.X k).act = .op j o) (hm : MayG Q ds.length S k) :
    Calls Try.prog 11 #[.pointer (some ⟨C, 0, none⟩), .int .i64 k] w fun e w' => e = .returned (.bool true) ∧ Gang w0 w' C gw gd a p q ws ds Q (stepG Q ds.length S k) := by
  have hkl : k < ws.length := (List.getElem?_eq_some_iff.1 hk).1
  have hlen := h.cw.len
  have kw := h.cw.w_ k b hk
  obtain ⟨cw, cd, hh⟩ := h.cw.head
  have c0 : w.cell? ⟨C, 0, none⟩ = some (.slice (some ⟨gw, 0, none⟩) ws.length cw) := by rw [cell_of_heap hh]; rfl
  obtain ⟨hv, g, po, pf, hB, h1, h2, h3⟩ := h.wk k b hk
  rw [ha] at h3
  obtain ⟨rfl, ob, d, rfl, hdj, h4⟩ := h3
  have f4 := h1.f 4
  have f3 := h1.f 3
  have f1 := h1.f 1
  rw [he] at f4
  simp only [wkCells, ptr] at f4 f3 f1
  have hw4 : ws.length ≤ 4 := by omega
  obtain ⟨s, hsh⟩ := h.sh
  unfold MayG at hm
  have hm2 := hm he
  rw [ha] at hm2
  obtain ⟨hfit, hov⟩ := hm2
  clear hm
  have hd := hsh.dq j d hdj
  have hobB : ob ∈ Bs k := by rw [hB]; simp
  have hgB : ∀ y, y ∈ g → y ∈ Bs k := fun y hy => by rw [hB]; simp [hy]
  have HA := hide (step_any w d p q ob (cOf Q j) S.l s 1000000 (by omega) o hfit ⟨ne_of_type h4 hd.head (by decide), ne_of_type h4 hd.mem.head (by decide), ne_of_type h4 hd.mem.row (by decide)⟩ hd h4)
  have hl' : (stepOf (cOf Q j) S.l o).1.length = S.l.length := stepOf_length _ _ _
  -- the crew behind the operation's step
  have HK : Hid (∀ w1 s1, Dq w1 d p q (cOf Q j) (stepOf (cOf Q j) S.l o).1 s1 → OpB w1 ob d (stepOf (cOf Q j) S.l o).2 → Turned [p, q, ob] w w1 → Cw w1 C gw gd a ws ds S.dn ∧ Sh w1 a p q ds Q (stepOf (cOf Q j) S.l o).1 s1 ∧ Wk w1 b a ds { S.X k with act := .op j (stepOf (cOf Q j) S.l o).2 } (Bs k) ∧ ∃ hv', WkR w1 b (wkCells hv' (some ⟨ob, 0, none⟩) (S.X k).kind none false)) := by
    intro w1 s1 r1 r2 t
    have r3 := h.stepped hk ⟨_, _, _, h4, .inl rfl⟩ t
    have r4 := r3.2 hv g (some ob) none h1 h2 hgB
    refine ⟨r3.1, hsh.opd h4 r1.mem hl' t, ⟨hv, g, some ob, none, hB, r4.1, r4.2, rfl, ob, d, rfl, hdj, r2⟩, hv, ?_⟩
    have := r4.1
    rw [he] at this
    exact this
  have HG := hide (And.intro h (And.intro hk (And.intro hobB (And.intro he (And.intro ha hov)))))
  have HOv := hide (fun w1 s1 (hdn : 0 ≤ S.dn ∧ S.dn ≤ 100000) (hok : OverOk (S.X k) (valOf (stepOf (cOf Q j) S.l o).2).1 (valOf (stepOf (cOf Q j) S.l o).2).2) (r1 : Cw w1 C gw gd a ws ds S.dn) (r2 : Sh w1 a p q ds Q (stepOf (cOf Q j) S.l o).1 s1) (r3 : Wk w1 b a ds { S.X k with act := .op j (stepOf (cOf Q j) S.l o).2 } (Bs k)) => cover_any w1 C gw gd a p q b k ws ds Q (stepOf (cOf Q j) S.l o).1 s1 S.dn { S.X k with act := .op j (stepOf (cOf Q j) S.l o).2 } (Bs k) j _ rfl hok hdn (h.nq k hkl) hk r1 r2 r3)
  have hst : stepG Q ds.length S k = if (stepOf (cOf Q j) S.l o).2.done then
      { l := (stepOf (cOf Q j) S.l o).1
        X := updX S.X k (overS ds.length k { S.X k with act := .op j (stepOf (cOf Q j) S.l o).2 } (valOf (stepOf (cOf Q j) S.l o).2).1 (valOf (stepOf (cOf Q j) S.l o).2).2).1
        dn := S.dn + (overS ds.length k { S.X k with act := .op j (stepOf (cOf Q j) S.l o).2 } (valOf (stepOf (cOf Q j) S.l o).2).1 (valOf (stepOf (cOf Q j) S.l o).2).2).2.1 }
    else { S with l := (stepOf (cOf Q j) S.l o).1, X := updX S.X k { S.X k with act := .op j (stepOf (cOf Q j) S.l o).2 } } := by
    unfold stepG
    rw [if_neg (by rw [he]; decide), ha]
  rw [hst]
  clear h hh hlen hk hB h1 h2 he ha hsh hd h4 hobB hgB hl' hst hov hfit hdj
  generalize ws.length = m at c0 hkl hw4
  generalize hR : stepOf (cOf Q j) S.l o = R at *
  clear hR
  cases hdone : R.2.done
  · rw [hdone] at HA
    go_enter Try.func11, Try.ntmps11
    go_wp2_with fail
    refine HA.out.mono ?_
    rintro e w1 ⟨rfl, r1, r2, t⟩
    have H1 := hide (And.intro (HK.out w1 _ r1 r2 t) t)
    clear r1 r2 t HA HK f1 f3 f4 c0 kw
    go_wp2_with fail
    go_ret
    obtain ⟨⟨r1, r2, r3, _⟩, t⟩ := H1.out
    obtain ⟨h, hk, hob, _⟩ := HG.out
    refine ⟨rfl, ?_⟩
    exact h.upd hk (fun y hy => by simp at hy; rcases hy with rfl | rfl | rfl <;> simp [hob]) t r1 ⟨_, r2⟩ r3 (fun y hy => .inl hy)
  · rw [hdone] at HA
    go_enter Try.func11, Try.ntmps11
    go_wp2_with fail
    refine HA.out.mono ?_
    rintro e w1 ⟨rfl, r1, r2, t⟩
    have H1 := hide (And.intro (HK.out w1 _ r1 r2 t) t)
    clear r1 r2 t HA HK f1 f3 f4 c0 kw
    have HC := hide (HOv.out w1 _ (HG.out.2.2.2.2.2 hdone).2 (HG.out.2.2.2.2.2 hdone).1 H1.out.1.1 H1.out.1.2.1 H1.out.1.2.2.1)
    clear HOv
    go_wp2_with fail
    refine HC.out.mono ?_
    rintro e w2 ⟨rfl, q1, q2, q3, t2⟩
    have H2 := hide (And.intro q1 (And.intro q2 (And.intro q3 t2)))
    clear q1 q2 q3 t2 HC
    go_wp2_with fail
    go_ret
    obtain ⟨⟨r1, r2, r3, _⟩, t⟩ := H1.out
    obtain ⟨⟨B', q1, q1'⟩, q2, q3, t2⟩ := H2.out
    obtain ⟨h, hk, hob, _⟩ := HG.out
    refine ⟨rfl, ?_⟩
    have t3 : Turned (p :: q :: C :: b :: Bs k) w w2 := (t.mono (fun y hy => by simp at hy; rcases hy with rfl | rfl | rfl <;> simp [hob])).trans (t2.mono (fun y hy => by simp at hy; rcases hy with rfl | rfl | hy <;> simp [*]))
    exact h.upd hk (fun y hy => by simp at hy; exact hy) t3 q2 ⟨_, q3⟩ q1 (fun y hy => by rcases q1' y hy with h1 | h1; exact .inl h1; exact .inr (Nat.le_trans t.size h1))

theorem Gang.turned0 {w0 w w' : World} {C gw gd a p q : Nat} {ws ds : List Nat} {Q : QC} {S : GS} (h : Gang w0 w C gw gd a p q ws ds Q S) (t : Turned [] w w') : Gang w0 w' C gw gd a p q ws ds Q S := by
  obtain ⟨Bs, h⟩ := h
  exact ⟨Bs, h.tu.trans t, h.cw.turned t (by simp) (by simp) (by simp), h.sh.turned0 t, fun i b hb => (h.wk i b hb).turned t (by simp) (by simp) (by simp), h.nd, h.ap, h.nq, h.lo⟩

set_option maxHeartbeats 4000000 in
theorem cstep_offer (o : OfS) (h : GangB w0 w C gw gd a p q ws ds Q S Bs) (hk : ws[k]? = some b) (he : (S.X k).ended = false) (ha : (S.X k).act = .offer o) (hm : MayG Q ds.length S k) :
    Calls Try.prog 11 #[.pointer (some ⟨C, 0, none⟩), .int .i64 k] w fun e w' => e = .returned (.bool true) ∧ Gang w0 w' C gw gd a p q ws ds Q (stepG Q ds.length S k) := by
  have hkl : k < ws.length := (List.getElem?_eq_some_iff.1 hk).1
  have hlen := h.cw.len
  have kw := h.cw.w_ k b hk
  obtain ⟨cw, cd, hh⟩ := h.cw.head
  have c0 : w.cell? ⟨C, 0, none⟩ = some (.slice (some ⟨gw, 0, none⟩) ws.length cw) := by rw [cell_of_heap hh]; rfl
  obtain ⟨hv, g, po, pf, hB, h1, h2, h3⟩ := h.wk k b hk
  rw [ha] at h3
  obtain ⟨rfl, ob, rfl, h4⟩ := h3
  have f4 := h1.f 4
  have f3 := h1.f 3
  rw [he] at f4
  simp only [wkCells, ptr] at f4 f3
  have hw4 : ws.length ≤ 4 := by omega
  obtain ⟨s, hsh⟩ := h.sh
  unfold MayG at hm
  have hm2 := hm he
  rw [ha] at hm2
  obtain ⟨hcn, hqo, hst⟩ := hm2
  clear hm
  have hobB : ob ∈ Bs k := by rw [hB]; simp
  have hgB : ∀ y, y ∈ g → y ∈ Bs k := fun y hy => by rw [hB]; simp [hy]
  have HA := hide (Sx.step (b := ob) (l' := (stepQ Q S.l o).1) (o' := (stepQ Q S.l o).2) h.sh h4 hcn hqo rfl)
  obtain ⟨cof, hcof⟩ := h4.type
  have HK : Hid (∀ w1, Sx w1 a p q ds Q (stepQ Q S.l o).1 → OfB w1 ob a ds (stepQ Q S.l o).2 → Turned [p, q, ob] w w1 → Cw w1 C gw gd a ws ds S.dn ∧ (∀ w2 en, Turned [b] w1 w2 → WkR w2 b (wkCells hv none (S.X k).kind (some ⟨ob, 0, none⟩) en) → Wk w2 b a ds { S.X k with act := .offer (stepQ Q S.l o).2, ended := en } (Bs k)) ∧ WkR w1 b (wkCells hv none (S.X k).kind (some ⟨ob, 0, none⟩) false)) := by
    intro w1 r1 r2 t
    have r3 := h.stepped hk ⟨_, _, _, hcof, .inr rfl⟩ t
    have r4 := r3.2 hv g none (some ob) h1 h2 hgB
    obtain ⟨c2, hc2⟩ := r2.type
    refine ⟨r3.1, fun w2 en t2 hr => ⟨hv, g, none, some ob, hB, hr, r4.2.turned t2 (r4.2.nb r4.1), rfl, ob, rfl, r2.turned t2 (by simp; exact ne_of_type hc2 r4.1 (by decide)) (fun y hy => by simp at hy; subst hy; exact noRow r4.1 (by decide))⟩, ?_⟩
    have := r4.1
    rw [he] at this
    exact this
  have HG := hide (And.intro h (And.intro hk (And.intro hobB (And.intro he (And.intro ha hst)))))
  have hsg : stepG Q ds.length S k = { S with
      l := (stepQ Q S.l o).1
      X := updX S.X k
        (if (stepQ Q S.l o).2.state = 2 then { S.X k with act := .offer (stepQ Q S.l o).2, ended := true }
         else if (stepQ Q S.l o).2.state = 1 then nextS ds.length k { S.X k with act := .offer (stepQ Q S.l o).2 } 0
         else { S.X k with act := .offer (stepQ Q S.l o).2 }) } := by
    unfold stepG
    rw [if_neg (by rw [he]; decide), ha]
  rw [hsg]
  have HE := hide he
  clear h hh hlen hk hB h1 h2 he ha hsh h4 hobB hgB hsg hst hcn hqo hcof
  generalize ws.length = m at c0 hkl hw4
  generalize hR : stepQ Q S.l o = R at *
  clear hR
  go_enter Try.func11, Try.ntmps11
  go_wp2_with fail
  refine HA.out.mono ?_
  rintro e w1 ⟨rfl, r1, r2, t⟩
  have H1 := hide (And.intro (HK.out w1 r1 r2 t) (And.intro r1 t))
  clear r1 r2 t HA HK f3 f4 c0 kw
  generalize hst : R.2.state = st at *
  by_cases s2 : st = 2
  · subst s2
    have y4 := H1.out.1.2.2.f 4
    have z4 := H1.out.1.2.2.fz 4
    simp only [wkCells] at y4
    have t1 : Turned [b] w1 (w1.setCell ⟨b, 4, none⟩ (.bool true)) := (Turned.refl _ _).setCell (by simp) _
    have HB2 : Hid (WkR (w1.setCell ⟨b, 4, none⟩ (.bool true)) b (wkCells hv none (S.X k).kind (some ⟨ob, 0, none⟩) true)) := H1.out.1.2.2.set 4 _
    have HT1 := hide t1
    have HG2 : Hid (Gang w0 (w1.setCell ⟨b, 4, none⟩ (.bool true)) C gw gd a p q ws ds Q ⟨R.1, updX S.X k { S.X k with act := .offer R.2, ended := true }, S.dn⟩) := by
      obtain ⟨⟨r1, r2, r3⟩, rs, t⟩ := H1.out
      obtain ⟨h, hk, hob, _⟩ := HG.out
      have t3 : Turned [p, q, ob, b] w (w1.setCell ⟨b, 4, none⟩ (.bool true)) := (t.mono (by simp)).trans (t1.mono (by simp))
      obtain ⟨s1, hs1⟩ := rs
      exact h.upd hk (fun y hy => by simp at hy; rcases hy with rfl | rfl | rfl | rfl <;> simp [hob]) t3 (r1.turnedb r3 t1) ⟨s1, hs1.turnedb r3 t1⟩ (r2 _ true t1 HB2.out) (fun y hy => .inl hy)
    have HQt : Hid (Calls Try.prog 12 #[.pointer (some ⟨C, 0, none⟩)] (w1.setCell ⟨b, 4, none⟩ (.bool true)) fun e w' => e = .returned (.bool true) ∧ Turned [] (w1.setCell ⟨b, 4, none⟩ (.bool true)) w') := by
      obtain ⟨Bs2, g2⟩ := HG2.out
      obtain ⟨s2, hs2⟩ := g2.sh
      have hStill := HG.out.2.2.2.2.2 rfl
      refine cquiet_any _ C gw gd a p q ws ds Q R.1 s2 S.dn (fun i hi => (hStill i hi).2.1) (fun i hi => (hStill i hi).2.2) (fun i b' hb' => ⟨_, _, g2.wk i b' hb', ?_⟩) g2.cw hs2
      have hi : i < ds.length := by have := (List.getElem?_eq_some_iff.1 hb').1; have := g2.cw.len; omega
      by_cases hik : i = k
      · subst hik
        simpa [updX] using (hStill i hi).1
      · simpa [updX, hik] using (hStill i hi).1
    clear t1
    go_wp2_with fail
    clear y4 z4
    refine HQt.out.mono ?_
    rintro e w3 ⟨rfl, t3⟩
    have H3 := hide (HG2.out.turned0 t3)
    clear t3 HQt HG2 HB2 HT1
    go_wp2_with fail
    go_ret
    exact ⟨rfl, by simpa using H3.out⟩
  · by_cases s1 : st = 1
    · subst s1
      have HN : Hid (∃ s1, Sh w1 a p q ds Q R.1 s1 ∧ Calls Try.prog 23 #[.pointer (some ⟨C, 0, none⟩), .int .i64 k, .int .i64 0] w1 fun e w' => e = .returned (.tuple #[]) ∧ (∃ B', Wk w' b a ds (nextS ds.length k { S.X k with act := .offer R.2 } 0) B' ∧ ∀ y, y ∈ B' → y ∈ Bs k ∨ w1.heap.size ≤ y) ∧ Turned [b] w1 w') := by
        obtain ⟨⟨r1, r2, r3⟩, ⟨s1, rs⟩, t⟩ := H1.out
        obtain ⟨h, hk, hob, _⟩ := HG.out
        have r4 := r2 w1 false (Turned.refl _ _) r3
        rw [← HE.out] at r4
        exact ⟨s1, rs, cnext_any w1 C gw gd a p q b k ws ds Q R.1 s1 S.dn _ (Bs k) 0 (by omega) hk r1 rs r4⟩
      obtain ⟨s1, hs1, hN⟩ := HN.out
      have HN2 := hide hN
      have HS1 := hide hs1
      clear HN hN hs1
      go_wp2_with fail
      refine HN2.out.mono ?_
      rintro e w2 ⟨rfl, q1, t2⟩
      have H2 := hide (And.intro q1 t2)
      clear q1 t2 HN2
      go_wp2_with fail
      go_ret
      obtain ⟨⟨r1, r2, r3⟩, rs, t⟩ := H1.out
      obtain ⟨h, hk, hob, _⟩ := HG.out
      obtain ⟨⟨B', q1, q1'⟩, t2⟩ := H2.out
      refine ⟨rfl, ?_⟩
      have t3 : Turned [p, q, ob, b] w w2 := (t.mono (by simp)).trans (t2.mono (by simp))
      have key := h.upd hk (fun y hy => by simp at hy; rcases hy with rfl | rfl | rfl | rfl <;> simp [hob]) t3 (r1.turnedb r3 t2) ⟨s1, HS1.out.turnedb r3 t2⟩ q1 (fun y hy => by rcases q1' y hy with h1 | h1; exact .inl h1; exact .inr (Nat.le_trans t.size h1))
      simpa using key
    · go_wp2_with fail
      go_ret
      obtain ⟨⟨r1, r2, r3⟩, rs, t⟩ := H1.out
      obtain ⟨h, hk, hob, _⟩ := HG.out
      refine ⟨rfl, ?_⟩
      have r4 := r2 w1 false (Turned.refl _ _) r3
      rw [← HE.out] at r4
      exact h.upd hk (fun y hy => by simp at hy; rcases hy with rfl | rfl | rfl <;> simp [hob]) t r1 rs r4 (fun y hy => .inl hy)

theorem cstep_any (h : Gang w0 w C gw gd a p q ws ds Q S) (hk : k < ws.length) (hm : MayG Q ds.length S k) :
    Calls Try.prog 11 #[.pointer (some ⟨C, 0, none⟩), .int .i64 k] w fun e w' => e = .returned (.bool true) ∧ Gang w0 w' C gw gd a p q ws ds Q (stepG Q ds.length S k) := by
  obtain ⟨Bs, h⟩ := h
  obtain ⟨b, hb⟩ : ∃ b, ws[k]? = some b := ⟨ws[k], by simp⟩
  cases he : (S.X k).ended
  · cases ha : (S.X k).act with
    | none =>
      refine (cstep_none w0 w C gw gd a p q k b ws ds Q S Bs h hb he ha).mono ?_
      rintro e w' ⟨rfl, h1⟩
      refine ⟨rfl, ?_⟩
      unfold stepG
      rw [if_neg (by rw [he]; decide), ha]
      exact h1
    | op j o => exact cstep_op w0 w C gw gd a p q k b ws ds Q S Bs j o h hb he ha hm
    | offer o => exact cstep_offer w0 w C gw gd a p q k b ws ds Q S Bs o h hb he ha hm
  · refine (cstep_ended w0 w C gw gd a p q k b ws ds Q S Bs h hb he).mono ?_
    rintro e w' ⟨rfl, rfl⟩
    refine ⟨rfl, ?_⟩
    unfold stepG
    rw [if_pos he]
    exact ⟨Bs, h⟩
end
end Go.Proofs.Ytokabpgdklihlaa

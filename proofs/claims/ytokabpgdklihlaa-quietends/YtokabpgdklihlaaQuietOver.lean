/-
  The crew of the law QuietEnds: what a worker is about ('WkS'), in the model's heap ('Wk'), 'next' as a pure function ('nextS').
-/
import Derived.Test.YtokabpgdklihlaaQuietNext
namespace Go.Proofs.Ytokabpgdklihlaa
open Go.RowKit

/-- What a worker does just now: nothing, an operation on the k-th deque, an offer. -/
inductive Do
  | none
  | op (k : Nat) (o : OpS)
  | offer (o : OfS)

structure WkS where
  hands : List Int
  kind : Int
  act : Do
  ended : Bool

/-- What a worker does next (worker k of n). -/
def nextS (n k : Nat) (x : WkS) (after : Int) : WkS :=
  match x.hands with
  | y :: _ => { x with kind := 0, act := .op k (opNew .pushReadBottom y) }
  | [] => if after < 1 then { x with kind := 1, act := .op k (opNew .popReadBottom 0) } else if after ≤ n then { x with kind := after + 1, act := .op (after - 1).toNat (opNew .stealReadTop 0) } else { x with act := .offer ofNew }

def ptr : Option Nat → Option Addr
  | none => none
  | some b => some ⟨b, 0, none⟩

def DoB (w : World) (a : Nat) (ds : List Nat) (po pf : Option Nat) : Do → Prop
  | .none => po = none ∧ pf = none
  | .op k o => pf = none ∧ ∃ b d, po = some b ∧ ds[k]? = some d ∧ OpB w b d o
  | .offer o => po = none ∧ ∃ b, pf = some b ∧ OfB w b a ds o

/-- A worker: block b, and what is its own beside it (B). -/
def Wk (w : World) (b a : Nat) (ds : List Nat) (x : WkS) (B : List Nat) : Prop :=
  ∃ hv g po pf, B = g ++ (po.toList ++ pf.toList) ∧ WkR w b (wkCells hv (ptr po) x.kind (ptr pf) x.ended) ∧ Hd w hv x.hands g ∧ DoB w a ds po pf x.act

section
variable {w w' : World} {a b p q : Nat} {ds : List Nat} {x : WkS} {B : List Nat} {Q : QC} {l : List Int} {s : Int} {c : Array Value}
theorem Wk.turned (h : Wk w b a ds x B) {S : List Nat} (t : Turned S w w') (hb : b ∉ S) (hB : ∀ k, k ∈ B → k ∉ S) (hS : ∀ k, k ∈ S → NoRow w k) : Wk w' b a ds x B := by
  obtain ⟨hv, g, po, pf, rfl, h1, h2, h3⟩ := h
  refine ⟨hv, g, po, pf, rfl, h1.turned t hb, h2.turned t (fun k hk => hB k (by simp [hk])), ?_⟩
  cases hx : x.act <;> rw [hx] at h3
  · exact h3
  · obtain ⟨e1, ob, d, e2, e3, e4⟩ := h3
    exact ⟨e1, ob, d, e2, e3, e4.turned t (hB ob (by simp [e2]))⟩
  · obtain ⟨e1, ob, e2, e3⟩ := h3
    exact ⟨e1, ob, e2, e3.turned t (hB ob (by simp [e2])) hS⟩
theorem Hd.nb {hv : Value} {T : List Int} {g : List Nat} (h : Hd w hv T g) (hb : WkR w b c) : ∀ k, k ∈ g → k ∉ [b] := by
  rcases h with ⟨_, _, rfl⟩ | ⟨gb, off, cap, cc, rfl, _, h3, _⟩
  · simp
  · intro k hk
    simp at hk
    subst hk
    simp
    exact ne_of_type h3 hb (by decide)
theorem Sh.turnedb (hs : Sh w a p q ds Q l s) (hb : WkR w b c) (t : Turned [b] w w') : Sh w' a p q ds Q l s :=
  hs.turned t (by simp; exact ne_of_type hs.head hb (by decide)) (by simp; exact ne_of_type hs.mem.head hb (by decide)) (by simp; exact ne_of_type hs.mem.row hb (by decide)) (fun x hx => by
    obtain ⟨i, hi⟩ := List.getElem?_of_mem hx
    simp
    exact ne_of_type (hs.dq i x hi).head hb (by decide))
end

section
variable (w : World) (C gw gd a p q b k : Nat) (ws ds : List Nat) (Q : QC) (l : List Int) (s dn : Int)

theorem cnext_any (x : WkS) (B : List Nat) (after : Int) (ha : after ≤ 100) (hk : ws[k]? = some b) (hC : Cw w C gw gd a ws ds dn) (hs : Sh w a p q ds Q l s) (hx : Wk w b a ds x B) :
    Calls Try.prog 23 #[.pointer (some ⟨C, 0, none⟩), .int .i64 k, .int .i64 after] w fun e w' => e = .returned (.tuple #[]) ∧ (∃ B', Wk w' b a ds (nextS ds.length k x after) B' ∧ ∀ y, y ∈ B' → y ∈ B ∨ w.heap.size ≤ y) ∧ Turned [b] w w' := by
  obtain ⟨hv, g, po, pf, rfl, h1, h2, h3⟩ := hx
  have hlen := hC.len
  have hkl : k < ds.length := by have := (List.getElem?_eq_some_iff.1 hk).1; omega
  obtain ⟨d, hdk⟩ : ∃ d, ds[k]? = some d := ⟨ds[k], by simp⟩
  have hnb := h2.nb h1
  obtain ⟨T, kd, act, en⟩ := x
  simp only at h1 h2 h3
  cases T with
  | cons y T =>
    have h2' := h2
    rcases h2' with ⟨_, h0, _⟩ | ⟨gb, off, cap, cc, rfl, hvv, hh, hcap, hsz, hT⟩
    · cases h0
    · subst hvv
      refine (cnext_push w C gw gd a p q b d k ws ds (cOf Q k) l s dn after gb off T.length cap y (ptr po) kd (ptr pf) en hk hdk hC h1 (hs.dq k d hdk) (hT 0 y rfl) (ne_of_type hh h1 (by decide))).mono ?_
      rintro e w' ⟨rfl, o, ho, g1, g2, t⟩
      exact ⟨rfl, ⟨[gb] ++ ((some o).toList ++ (none : Option Nat).toList), ⟨_, _, some o, none, rfl, g1, h2.turned t hnb, rfl, o, d, rfl, hdk, g2⟩, fun z hz => by simp at hz ⊢; rcases hz with rfl | rfl <;> simp [ho]⟩, t⟩
  | nil =>
    obtain ⟨hp, cap, hvv⟩ : ∃ hp cap, hv = .slice hp 0 cap := by
      rcases h2 with ⟨h0, _, _⟩ | ⟨gb, off, cap, cc, _, hvv, _⟩
      · exact ⟨_, _, h0⟩
      · exact ⟨_, _, hvv⟩
    subst hvv
    by_cases a1 : after < 1
    · refine (cnext_pop w C gw gd a p q b d k ws ds (cOf Q k) l s dn after hp cap (ptr po) kd (ptr pf) en hk hdk hC h1 (hs.dq k d hdk) a1).mono ?_
      rintro e w' ⟨rfl, o, ho, g1, g2, t⟩
      refine ⟨rfl, ⟨g ++ ((some o).toList ++ (none : Option Nat).toList), ?_, fun z hz => by simp at hz ⊢; rcases hz with hz | rfl <;> simp [*]⟩, t⟩
      simp only [nextS, a1, if_true]
      exact ⟨_, _, some o, none, rfl, g1, h2.turned t hnb, rfl, o, d, rfl, hdk, g2⟩
    · by_cases a2 : after ≤ ds.length
      · obtain ⟨j, rfl⟩ : ∃ j : Nat, after = (j : Int) + 1 := ⟨(after - 1).toNat, by omega⟩
        obtain ⟨d2, hdj⟩ : ∃ d, ds[j]? = some d := ⟨ds[j]'(by omega), by simp⟩
        refine (cnext_steal w C gw gd a p q b d2 k ws ds (cOf Q j) l s dn j hp cap (ptr po) kd (ptr pf) en hk hdj hC h1 (hs.dq j d2 hdj)).mono ?_
        rintro e w' ⟨rfl, o, ho, g1, g2, t⟩
        refine ⟨rfl, ⟨g ++ ((some o).toList ++ (none : Option Nat).toList), ?_, fun z hz => by simp at hz ⊢; rcases hz with hz | rfl <;> simp [*]⟩, t⟩
        simp only [nextS, a1, a2, if_true, if_false]
        exact ⟨_, _, some o, none, rfl, g1, h2.turned t hnb, rfl, o, d2, rfl, by rw [show ((j : Int) + 1 - 1).toNat = j by omega]; exact hdj, g2⟩
      · refine (cnext_offer w C gw gd a p q b k ws ds l s dn Q after hp cap (ptr po) kd (ptr pf) en hk hC h1 hs (by omega) ha).mono ?_
        rintro e w' ⟨rfl, o, ho, g1, g2, t⟩
        refine ⟨rfl, ⟨g ++ ((none : Option Nat).toList ++ (some o).toList), ?_, fun z hz => by simp at hz ⊢; rcases hz with hz | rfl <;> simp [*]⟩, t⟩
        simp only [nextS, a1, a2, if_false]
        exact ⟨_, _, none, some o, rfl, g1, h2.turned t hnb, rfl, o, rfl, g2⟩
end

/-- What a worker is about once its operation is done (v, e: what that tells): the worker, the items worked off, whether all is well. -/
def overS (n k : Nat) (x : WkS) (v e : Int) : WkS × Int × Bool :=
  if x.kind = 0 then (if e = 0 then (nextS n k { x with hands := x.hands.tail } 0, 0, true) else (x, 0, false))
  else if e = 0 then (nextS n k { x with hands := if 0 < v then x.hands ++ [v - 1, v - 1] else x.hands } 0, 1, true)
  else if e = 16 then (nextS n k x (x.kind - 1), 0, true)
  else (nextS n k x x.kind, 0, decide (e = 15))

section
variable (w : World) (C gw gd a p q b k : Nat) (ws ds : List Nat) (Q : QC) (l : List Int) (s dn : Int)

set_option maxHeartbeats 2000000 in
set_option maxRecDepth 100000 in
theorem cover_other (x : WkS) (B : List Nat) (j : Nat) (o : OpS) (hxa : x.act = .op j o) (hkd : 1 ≤ x.kind ∧ x.kind ≤ 50) (he : (valOf o).2 = 16 ∨ (valOf o).2 = 15) (hk : ws[k]? = some b) (hC : Cw w C gw gd a ws ds dn) (hs : Sh w a p q ds Q l s) (hx : Wk w b a ds x B) :
    Calls Try.prog 25 #[.pointer (some ⟨C, 0, none⟩), .int .i64 k] w fun e w' => e = .returned (.bool true) ∧ (∃ B', Wk w' b a ds (overS ds.length k x (valOf o).1 (valOf o).2).1 B' ∧ ∀ y, y ∈ B' → y ∈ B ∨ w.heap.size ≤ y) ∧ Turned [b] w w' := by
  have hx' := hx
  obtain ⟨hv, g, po, pf, rfl, h1, h2, h3⟩ := hx'
  rw [hxa] at h3
  obtain ⟨rfl, ob, d, rfl, hdj, h4⟩ := h3
  have HV := hide (value_any w d ob o h4)
  have HN := hide (fun m (af : Int) (haf : af ≤ 100) => cnext_any (w.drewN m) C gw gd a p q b k ws ds Q l s dn x (g ++ ((some ob).toList ++ (none : Option Nat).toList)) af haf hk (hC.turned ((Turned.refl [] w).drewN m) (by simp) (by simp) (by simp)) (hs.drewN m) (hx.turned ((Turned.refl [] w).drewN m) (by simp) (by simp) (by simp)))
  have hkl : k < ws.length := (List.getElem?_eq_some_iff.1 hk).1
  have hlen := hC.len
  have kw := hC.w_ k b hk
  obtain ⟨cw, cd, hh⟩ := hC.head
  have c0 : w.cell? ⟨C, 0, none⟩ = some (.slice (some ⟨gw, 0, none⟩) ws.length cw) := by rw [cell_of_heap hh]; rfl
  have f1 := h1.f 1
  have f2 := h1.f 2
  simp only [wkCells, ptr] at f1 f2
  have hw4 : ws.length ≤ 4 := by omega
  have hov : (overS ds.length k x (valOf o).1 (valOf o).2).1 = nextS ds.length k x (if (valOf o).2 = 16 then x.kind - 1 else x.kind) := by
    unfold overS
    rw [if_neg (by omega), if_neg (by omega)]
    split <;> rfl
  rw [hov]
  generalize ws.length = m at c0 hkl hw4
  have HX := hide he
  have k0 : ¬ (x.kind = 0) := by omega
  have k1 : wrap64 (x.kind - 1) = x.kind - 1 := w64 _ (by omega)
  have k2 : x.kind ≤ 100 := by omega
  clear hC hs hx h1 h2 h4 hh hlen hk hdj hov hxa hkd
  generalize (valOf o).1 = v at *
  generalize (valOf o).2 = er at *
  generalize hkk : x.kind = kd at *
  have HKK := hide hkk
  clear hkk
  rcases he with rfl | rfl
  all_goals (
    go_enter Try.func25, Try.ntmps25
    go_wp2_with fail
    refine HV.out.mono ?_
    rintro e w1 ⟨rfl, nq, hw1⟩
    have f2' : w1.cell? ⟨b, 2, none⟩ = some (.int .i64 kd) := by rw [hw1]; exact f2
    have HW1 := hide hw1
    clear hw1 HV f1 f2 c0 kw
    go_wp2_with fail
    have HN2 := hide (HN.out nq)
    rw [← HW1.out] at HN2
    refine (HN2.out _ (by omega)).mono ?_
    rintro e w2 ⟨rfl, hB, ht⟩
    have HB := hide hB
    have HT : Hid (Turned [b] w w2) := by
      have h0 : Turned [b] w w1 := by rw [HW1.out]; exact (Turned.refl _ _).drewN _
      exact h0.trans ht
    have HSz : Hid (w1.heap.size = w.heap.size) := by rw [HW1.out]; rfl
    clear hB ht HN HN2 HW1
    go_wp2_with fail
    go_ret
    refine ⟨rfl, ?_, HT.out⟩
    have := HB.out
    rw [HSz.out] at this
    simpa using this)

set_option maxHeartbeats 2000000 in
set_option maxRecDepth 100000 in
theorem cover_push (x : WkS) (B : List Nat) (j : Nat) (o : OpS) (hxa : x.act = .op j o) (y : Int) (T : List Int) (hT : x.hands = y :: T) (hkd : x.kind = 0) (he : (valOf o).2 = 0) (hk : ws[k]? = some b) (hC : Cw w C gw gd a ws ds dn) (hs : Sh w a p q ds Q l s) (hx : Wk w b a ds x B) :
    Calls Try.prog 25 #[.pointer (some ⟨C, 0, none⟩), .int .i64 k] w fun e w' => e = .returned (.bool true) ∧ (∃ B', Wk w' b a ds (overS ds.length k x (valOf o).1 (valOf o).2).1 B' ∧ ∀ y, y ∈ B' → y ∈ B ∨ w.heap.size ≤ y) ∧ Turned [b] w w' := by
  have hx' := hx
  obtain ⟨hv, g, po, pf, rfl, h1, h2, h3⟩ := hx'
  rw [hxa] at h3
  obtain ⟨rfl, ob, d, rfl, hdj, h4⟩ := h3
  have HV := hide (value_any w d ob o h4)
  rw [hT] at h2
  obtain ⟨gb, off, cap, cc, hg, hvv, hh2, hcap, hsz, hTc⟩ : ∃ gb off cap c, g = [gb] ∧ hv = .slice (some ⟨gb, off, none⟩) (T.length + 1) (cap + 1) ∧ w.heap[gb]? = some (.cells c 2 (0, 0)) ∧ T.length ≤ cap ∧ off + (cap + 1) ≤ c.size ∧ ∀ (i : Nat) x, (y :: T)[i]? = some x → w.cell? ⟨gb, off + i, none⟩ = some (.int .i64 x) := by
    rcases h2 with ⟨_, h0, _⟩ | ⟨gb, off, cap, c, h0, h1, h3, h4, h5, h6⟩
    · cases h0
    · simp at h4
      obtain ⟨cp, rfl⟩ : ∃ cp, cap = cp + 1 := ⟨cap - 1, by omega⟩
      exact ⟨gb, off, cp, c, h0, by simpa using h1, h3, by omega, h5, h6⟩
  subst hg
  subst hvv
  have HC := hide hC
  have HS := hide hs
  have HW := hide h1
  have HX := hide hx
  -- what the hands are then
  have HH : Hid (∀ w' : World, Turned [b] w w' → Hd w' (.slice (some ⟨gb, if cap = 0 then off else off + 1, none⟩) T.length cap) T [gb]) := by
    intro w' t
    have hnb : gb ∉ [b] := by simp; exact ne_of_type hh2 h1 (by decide)
    refine .inr ⟨gb, if cap = 0 then off else off + 1, cap, cc, rfl, rfl, by rw [t.block gb (lt_of_heap hh2) hnb]; exact hh2, hcap, by split <;> omega, fun i z hz => ?_⟩
    have hi := (List.getElem?_eq_some_iff.1 hz).1
    rw [if_neg (by omega), t.cell (p := ⟨gb, off + 1 + i, none⟩) (lt_of_heap hh2) hnb]
    have := hTc (i + 1) z (by simpa using hz)
    rwa [show off + (i + 1) = off + 1 + i by omega] at this
  have HN : Hid (∀ w' : World, Turned [b] w w' → WkR w' b (wkCells (.slice (some ⟨gb, if cap = 0 then off else off + 1, none⟩) T.length cap) (some ⟨ob, 0, none⟩) 0 none x.ended) → Calls Try.prog 23 #[.pointer (some ⟨C, 0, none⟩), .int .i64 k, .int .i64 0] w' fun e w2 => e = .returned (.tuple #[]) ∧ (∃ B', Wk w2 b a ds (nextS ds.length k { x with hands := T } 0) B' ∧ ∀ y, y ∈ B' → y ∈ [gb, ob] ∨ w'.heap.size ≤ y) ∧ Turned [b] w' w2) := by
    intro w' t hr
    have hob : ob ∉ [b] := by simp; exact ne_of_type h4 h1 (by decide)
    exact cnext_any w' C gw gd a p q b k ws ds Q l s dn { x with hands := T } [gb, ob] 0 (by omega) hk (hC.turnedb h1 t) (hs.turnedb h1 t) ⟨_, [gb], some ob, none, rfl, by rw [hkd]; exact hr, HH.out w' t, by show DoB w' a ds (some ob) none x.act; rw [hxa]; exact ⟨rfl, ob, d, rfl, hdj, h4.turned t hob⟩⟩
  have hkl : k < ws.length := (List.getElem?_eq_some_iff.1 hk).1
  have hlen := hC.len
  have kw := hC.w_ k b hk
  obtain ⟨cw, cd, hh⟩ := hC.head
  have c0 : w.cell? ⟨C, 0, none⟩ = some (.slice (some ⟨gw, 0, none⟩) ws.length cw) := by rw [cell_of_heap hh]; rfl
  have f1 := h1.f 1
  simp only [wkCells, ptr] at f1
  have hw4 : ws.length ≤ 4 := by omega
  have hov : (overS ds.length k x (valOf o).1 (valOf o).2).1 = nextS ds.length k { x with hands := T } 0 := by
    unfold overS
    rw [if_pos hkd, if_pos he, hT]
    rfl
  rw [hov]
  generalize ws.length = m at c0 hkl hw4
  rw [he] at HV
  rw [hkd] at HW
  simp only [ptr] at HW
  have hTl : T.length ≤ cap := hcap
  generalize hTT : T.length = tl at *
  clear hC hs hx h1 h2 h4 hh hlen hk hdj hov hxa hkd he hTc hsz hcap hh2 hT hTT HX HS HC HH
  generalize (valOf o).1 = v at *
  go_enter Try.func25, Try.ntmps25
  go_wp2_with fail
  refine HV.out.mono ?_
  rintro e w1 ⟨rfl, nq, hw1⟩
  have HT1 : Hid (Turned [b] w w1) := by rw [hw1]; exact (Turned.refl _ _).drewN _
  have HSz : Hid (w1.heap.size = w.heap.size) := by rw [hw1]; rfl
  have HW1 : Hid (WkR w1 b (wkCells (.slice (some ⟨gb, off, none⟩) (tl + 1) (cap + 1)) (some ⟨ob, 0, none⟩) 0 none x.ended)) := by rw [hw1]; exact HW.out
  have f0 := HW1.out.f 0
  have f2 := HW1.out.f 2
  have z0 := HW1.out.fz 0
  simp only [wkCells] at f0 f2
  clear hw1 HV HW f1 c0 kw
  by_cases hcp0 : cap = 0
  · subst hcp0
    obtain rfl : tl = 0 := by omega
    simp only [if_true] at HN
    go_wp2_with fail
    refine (HN.out _ (HT1.out.setCell (by simp) _) (HW1.out.set 0 _)).mono ?_
    rintro e w2 ⟨rfl, hB, ht⟩
    have HB := hide hB
    have HT := hide ((HT1.out.setCell (p := ⟨b, 0, none⟩) (by simp) _).trans ht)
    clear hB ht HN HW1
    go_wp2_with fail
    go_ret
    refine ⟨rfl, ?_, HT.out⟩
    obtain ⟨B', q1, q2⟩ := HB.out
    exact ⟨B', q1, fun y hy => by have := q2 y hy; simpa [HSz.out] using this⟩
  · simp only [hcp0, if_false] at HN
    go_wp2_with fail
    refine (HN.out _ (HT1.out.setCell (by simp) _) (HW1.out.set 0 _)).mono ?_
    rintro e w2 ⟨rfl, hB, ht⟩
    have HB := hide hB
    have HT := hide ((HT1.out.setCell (p := ⟨b, 0, none⟩) (by simp) _).trans ht)
    clear hB ht HN HW1
    go_wp2_with fail
    go_ret
    refine ⟨rfl, ?_, HT.out⟩
    obtain ⟨B', q1, q2⟩ := HB.out
    exact ⟨B', q1, fun y hy => by have := q2 y hy; simpa [HSz.out] using this⟩

end
end Go.Proofs.Ytokabpgdklihlaa

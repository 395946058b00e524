/-
  The steps of package quiet's offers, each a method of the count: what each does to the cells and to the offer; State and Step.
-/
import Derived.Test.YtokabpgdklihlaaQuietBase
import Derived.Laws.EntriesVeiled
namespace Go.Proofs.Ytokabpgdklihlaa
open Go.RowKit

theorem eql_funcq (fn : Fn) (first caps : Array Value) (w : World) : (binOp .eql 73 (.func fn first caps) .nilFunc).run Try.prog w = .ok (.bool false) w := by kernel_rfl

section
variable (w : World) (a p q b g : Nat) (ds : List Nat) (Q : QC) (l : List Int) (s : Int)

/-- Add to the count. -/
theorem qadd (v : Int) (hb : -1000000 ≤ cnt Q l ∧ cnt Q l ≤ 1000000) (hv : -1 ≤ v ∧ v ≤ 1) (h : Sh w a p q ds Q l s) :
    Calls Try.prog 49 #[.pointer (some ⟨p, 0, none⟩), .int .i64 Q.at_, .int .i64 v] w fun e w' => (∃ u, e = .returned u) ∧ Mem w' p q (l.set Q.at_ (cnt Q l + v)) (wrap64 (s + 1)) ∧ Turned [p, q] w w' := by
  refine (add_in p q l s w Q.at_ (cnt Q l) v h.at h.mem).mono ?_
  rintro e w' ⟨rfl, h1, h2⟩
  rw [w64 (cnt Q l + v) (by omega)] at h1
  exact ⟨⟨_, rfl⟩, h1, h2⟩

set_option maxRecDepth 4000 in
theorem qs_countIn (cap : Nat) (st : Int) (k : Nat) (t : Int) (hb : -1000000 ≤ cnt Q l ∧ cnt Q l ≤ 1000000) (h : Qs w w a p q b g ds Q l s (ofCells a g ds.length cap ⟨.countIn, st, k, t⟩)) :
    Calls Try.prog 33 #[.pointer (some ⟨a, 0, none⟩), .pointer (some ⟨b, 0, none⟩)] w fun e w' => e = .returned (.tuple #[]) ∧ Sh w' a p q ds Q (l.set Q.at_ (cnt Q l + 1)) (wrap64 (s + 1)) ∧ OfB w' b a ds ⟨.readCount, st, k, t⟩ ∧ Turned [p, q, b] w w' := by
  have HA := hide (fun w' (h' : Sh w' a p q ds Q l s) => qadd w' a p q ds Q l s 1 hb (by omega) h')
  have H0 := hide h
  have c0 := h.sh.c0
  have c1 := h.sh.c1
  generalize hn : l.set Q.at_ (cnt Q l + 1) = l2 at *
  have HN := hide (show l2.length = l.length by rw [← hn]; simp)
  clear h hn
  go_enter Try.func33, Try.ntmps33
  go_wp2_with fail
  go_region_held3 (fun w' => w'.cell? ⟨a, 0, none⟩ = some (.pointer (some ⟨p, 0, none⟩)) ∧ w'.cell? ⟨a, 1, none⟩ = some (.int .i64 Q.at_)) (go_keep)
    (first
      | (go_at_call 49; refine (HA.out _ H0.out.sh.drew).mono ?_; rintro e w1 ⟨⟨u, rfl⟩, m1, t1⟩; have g1 := H0.out.drew.acc m1 HN.out t1; have g2 := g1.sh.c0; have g3 := g1.sh.c1; have H1 := hide g1; clear HA m1 t1 g1))
  have f0 := H1.out.of_.f 0
  have fz0 := H1.out.of_.fz 0
  simp only [ofCells, QStp.fn] at f0
  clear g2 g3 HN c0 c1 hb
  go_wp2_with fail
  first | refine bodyPost_end (results_none rfl _ _ _) rfl ?_ | refine bodyPost_ret (results_none rfl _ _ _) rfl ?_
  exact ⟨rfl, (H1.out.set 0 _).fin rfl⟩

set_option maxRecDepth 4000 in
theorem qs_countOut (cap : Nat) (st : Int) (k : Nat) (t : Int) (hb : -1000000 ≤ cnt Q l ∧ cnt Q l ≤ 1000000) (h : Qs w w a p q b g ds Q l s (ofCells a g ds.length cap ⟨.countOut, st, k, t⟩)) :
    Calls Try.prog 95 #[.pointer (some ⟨a, 0, none⟩), .pointer (some ⟨b, 0, none⟩)] w fun e w' => e = .returned (.tuple #[]) ∧ Sh w' a p q ds Q (l.set Q.at_ (cnt Q l - 1)) (wrap64 (s + 1)) ∧ OfB w' b a ds ⟨.countOut, 1, k, t⟩ ∧ Turned [p, q, b] w w' := by
  have HA := hide (fun w' (h' : Sh w' a p q ds Q l s) => qadd w' a p q ds Q l s (-1) hb (by omega) h')
  have H0 := hide h
  have c0 := h.sh.c0
  have c1 := h.sh.c1
  rw [show cnt Q l + -1 = cnt Q l - 1 by omega] at HA
  generalize hn : l.set Q.at_ (cnt Q l - 1) = l2 at *
  have HN := hide (show l2.length = l.length by rw [← hn]; simp)
  clear h hn
  go_enter Try.func95, Try.ntmps95
  go_wp2_with fail
  go_region_held3 (fun w' => w'.cell? ⟨a, 0, none⟩ = some (.pointer (some ⟨p, 0, none⟩)) ∧ w'.cell? ⟨a, 1, none⟩ = some (.int .i64 Q.at_)) (go_keep)
    (first
      | (go_at_call 49; refine (HA.out _ H0.out.sh.drew).mono ?_; rintro e w1 ⟨⟨u, rfl⟩, m1, t1⟩; have g1 := H0.out.drew.acc m1 HN.out t1; have g2 := g1.sh.c0; have g3 := g1.sh.c1; have H1 := hide g1; clear HA m1 t1 g1))
  have f1 := H1.out.of_.f 1
  have fz1 := H1.out.of_.fz 1
  simp only [ofCells, QStp.fn] at f1
  clear g2 g3 HN c0 c1 hb
  go_wp2_with fail
  first | refine bodyPost_end (results_none rfl _ _ _) rfl ?_ | refine bodyPost_ret (results_none rfl _ _ _) rfl ?_
  exact ⟨rfl, (H1.out.set 1 _).fin rfl⟩

set_option maxRecDepth 4000 in
theorem qs_look (w0 : World) (cap : Nat) (at_ : QStp) (st : Int) (j : Nat) (t : Int) (k : Nat) (h : Qs w0 w a p q b g ds Q l s (ofCells a g ds.length cap ⟨at_, st, j, t⟩)) :
    Calls Try.prog 62 #[.pointer (some ⟨a, 0, none⟩), .pointer (some ⟨b, 0, none⟩), .int .i64 k] w fun e w' => e = .returned (.tuple #[]) ∧ Sh w' a p q ds Q l s ∧ OfB w' b a ds (lookQ Q ⟨at_, st, j, t⟩ k) ∧ Turned [p, q, b] w0 w' := by
  have H0 := hide h
  have f0 := h.of_.f 0
  have f2 := h.of_.f 2
  have f3 := h.of_.f 3
  have z0 := h.of_.fz 0
  have z3 := h.of_.fz 3
  simp only [ofCells] at f0 f2 f3
  have hlen := h.sh.len
  generalize hm : ds.length = m at f2
  have HM := hide hm
  have hm64 : m ≤ 64 := by omega
  clear h
  by_cases hkm : k = m
  · subst hkm
    go_enter Try.func62, Try.ntmps62
    go_wp2_with fail
    first | refine bodyPost_end (results_none rfl _ _ _) rfl ?_ | refine bodyPost_ret (results_none rfl _ _ _) rfl ?_
    have e : lookQ Q ⟨at_, st, j, t⟩ k = ⟨.readCount, st, k, t⟩ := by unfold lookQ; rw [if_pos (by have := HM.out; omega)]
    rw [e]
    exact ⟨rfl, (((H0.out.set 3 _).set 0 _).set 0 _).fin rfl⟩
  · have hkm' : ¬ ((k : Int) = (m : Int)) := by omega
    go_enter Try.func62, Try.ntmps62
    go_wp2_with fail
    first | refine bodyPost_end (results_none rfl _ _ _) rfl ?_ | refine bodyPost_ret (results_none rfl _ _ _) rfl ?_
    have e : lookQ Q ⟨at_, st, j, t⟩ k = ⟨.readTop, st, k, t⟩ := by unfold lookQ; rw [if_neg (by have := HM.out; omega)]
    rw [e]
    exact ⟨rfl, ((H0.out.set 3 _).set 0 _).fin rfl⟩

set_option maxRecDepth 4000 in
theorem qs_readCount (cap : Nat) (k : Nat) (t : Int) (h : Qs w w a p q b g ds Q l s (ofCells a g ds.length cap ⟨.readCount, 0, k, t⟩)) :
    Calls Try.prog 50 #[.pointer (some ⟨a, 0, none⟩), .pointer (some ⟨b, 0, none⟩)] w fun e w' => e = .returned (.tuple #[]) ∧ Sh w' a p q ds Q l (wrap64 (s + 1)) ∧ OfB w' b a ds (if cnt Q l = Q.n then ⟨.readCount, 2, k, t⟩ else lookQ Q ⟨.readCount, 0, k, t⟩ 0) ∧ Turned [p, q, b] w w' := by
  have HA := hide (fun w' (h' : Sh w' a p q ds Q l s) => load_in p q l s w' Q.at_ (cnt Q l) h'.at h'.mem)
  have H0 := hide h
  have c0 := h.sh.c0
  have c1 := h.sh.c1
  have c2 := h.sh.c2
  clear h
  generalize cnt Q l = y at *
  go_enter Try.func50, Try.ntmps50
  go_wp2_with fail
  go_region_held3 (fun w' => w'.cell? ⟨a, 0, none⟩ = some (.pointer (some ⟨p, 0, none⟩)) ∧ w'.cell? ⟨a, 1, none⟩ = some (.int .i64 Q.at_)) (go_keep)
    (first
      | (go_at_call 57; refine (HA.out _ H0.out.sh.drew).mono ?_; rintro e w1 ⟨rfl, m1, t1⟩; have g1 := H0.out.drew.acc m1 rfl t1; have g2 := g1.sh.c0; have g3 := g1.sh.c1; have H1 := hide g1; clear HA m1 t1 g1))
  have f1 := H1.out.of_.f 1
  have fz1 := H1.out.of_.fz 1
  have d2 := H1.out.sh.c2
  simp only [ofCells, QStp.fn] at f1
  have HL := hide (qs_look w1 a p q b g ds Q l (wrap64 (s + 1)) w cap .readCount 0 k t 0 H1.out)
  clear g2 g3 c0 c1 c2
  by_cases hy : y = (Q.n : Int)
  · subst hy
    go_wp2_with fail
    first | refine bodyPost_end (results_none rfl _ _ _) rfl ?_ | refine bodyPost_ret (results_none rfl _ _ _) rfl ?_
    exact ⟨rfl, (H1.out.set 1 _).fin rfl⟩
  · go_wp2_with fail
    refine HL.out.mono ?_
    rintro e w2 ⟨rfl, h2⟩
    have H2 := hide h2
    clear h2 HL
    go_wp2_with fail
    first | refine bodyPost_end (results_none rfl _ _ _) rfl ?_ | refine bodyPost_ret (results_none rfl _ _ _) rfl ?_
    exact ⟨rfl, H2.out⟩

theorem Qs.held {w0 w : World} {a p q b g : Nat} {ds : List Nat} {Q : QC} {l : List Int} {s : Int} {c : Array Value} (h : Qs w0 w a p q b g ds Q l s c) {m cap k d : Nat} {o : OfS} (e : c = ofCells a g m cap o) (hk : o.k = k) (hd : ds[k]? = some d) :
    w.cell? ⟨b, 2, none⟩ = some (.slice (some ⟨g, 0, none⟩) m cap) ∧ w.cell? ⟨b, 3, none⟩ = some (.int .i64 k) ∧ w.cell? ⟨g, k, none⟩ = some (.pointer (some ⟨d, 0, none⟩)) := by
  subst e
  subst hk
  exact ⟨by rw [h.of_.f]; rfl, by rw [h.of_.f]; rfl, h.of_.at_ _ d hd⟩

set_option maxRecDepth 4000 in
theorem qs_readTop (cap : Nat) (st : Int) (k : Nat) (t : Int) (hk : k < Q.cs.length) (h : Qs w w a p q b g ds Q l s (ofCells a g ds.length cap ⟨.readTop, st, k, t⟩)) :
    Calls Try.prog 72 #[.pointer (some ⟨a, 0, none⟩), .pointer (some ⟨b, 0, none⟩)] w fun e w' => e = .returned (.tuple #[]) ∧ Sh w' a p q ds Q l (wrap64 (s + 1)) ∧ OfB w' b a ds ⟨.readBottom, st, k, rd (cOf Q k) l 0⟩ ∧ Turned [p, q, b] w w' := by
  obtain ⟨d, hd⟩ : ∃ d, ds[k]? = some d := ⟨ds[k]'(by have := h.sh.len; omega), by simp⟩
  have hlt : k < ds.length := (List.getElem?_eq_some_iff.1 hd).1
  have HA := hide (fun w' (h' : Sh w' a p q ds Q l s) => top_any w' d p q (cOf Q k) l s (h'.dq k d hd))
  have H0 := hide h
  have f2 := h.of_.f 2
  have f3 := h.of_.f 3
  have f4 := h.of_.f 4
  have z4 := h.of_.fz 4
  have r := h.of_.at_ k d hd
  simp only [ofCells] at f2 f3 f4
  have hlen := h.sh.len.2
  generalize hm : ds.length = m at f2 hlt hlen
  have HM := hide hm
  clear h hk hm
  generalize rd (cOf Q k) l 0 = y at *
  have hgb := hide (H0.out.of_.neg)
  go_enter Try.func72, Try.ntmps72
  go_wp2_with fail
  go_region_held3 (fun w' => w'.cell? ⟨b, 2, none⟩ = some (.slice (some ⟨g, 0, none⟩) m cap) ∧ w'.cell? ⟨b, 3, none⟩ = some (.int .i64 k) ∧ w'.cell? ⟨g, k, none⟩ = some (.pointer (some ⟨d, 0, none⟩))) (first | go_keep | exact Qs.held (H1.out.set 4 (.int .i64 y)) (o := ⟨.readTop, st, k, y⟩) (by rw [HM.out]; rfl) rfl hd)
    (first
      | (go_at_call 82; refine (HA.out _ H0.out.sh.drew).mono ?_; rintro e w1 ⟨rfl, m1, t1⟩; have g1 := H0.out.drew.acc m1.mem rfl t1; have g2 := g1.of_.f 2; have g3 := g1.of_.f 3; have g4 := g1.of_.at_ k d hd; have g5 := g1.of_.f 4; have g6 := g1.of_.fz 4; simp only [ofCells, HM.out] at g2 g3 g5; have H1 := hide g1; clear HA m1 t1 g1))
  have H2 := hide (H1.out.set 4 (.int .i64 y))
  generalize w1.setCell ⟨b, 4, none⟩ (.int .i64 y) = w2 at *
  have k0 := H2.out.of_.f 0
  have k1 := H2.out.of_.fz 0
  simp only [ofCells] at k0
  clear g2 g3 g4 g5 g6 H1 f2 f3 f4 z4 r HM
  go_wp2_with fail
  first | refine bodyPost_end (results_none rfl _ _ _) rfl ?_ | refine bodyPost_ret (results_none rfl _ _ _) rfl ?_
  exact ⟨rfl, (H2.out.set 0 _).fin rfl⟩

set_option maxRecDepth 4000 in
theorem qs_readBottom (cap : Nat) (st : Int) (k : Nat) (t : Int) (hk : k < Q.cs.length) (h : Qs w w a p q b g ds Q l s (ofCells a g ds.length cap ⟨.readBottom, st, k, t⟩)) :
    Calls Try.prog 83 #[.pointer (some ⟨a, 0, none⟩), .pointer (some ⟨b, 0, none⟩)] w fun e w' => e = .returned (.tuple #[]) ∧ Sh w' a p q ds Q l (wrap64 (s + 1)) ∧ OfB w' b a ds ⟨if t < rd (cOf Q k) l 1 then .countOut else .readStack, st, k, t⟩ ∧ Turned [p, q, b] w w' := by
  obtain ⟨d, hd⟩ : ∃ d, ds[k]? = some d := ⟨ds[k]'(by have := h.sh.len; omega), by simp⟩
  have hlt : k < ds.length := (List.getElem?_eq_some_iff.1 hd).1
  have HA := hide (fun w' (h' : Sh w' a p q ds Q l s) => bottom_any w' d p q (cOf Q k) l s (h'.dq k d hd))
  have H0 := hide h
  have f0 := h.of_.f 0
  have z0 := h.of_.fz 0
  simp only [ofCells] at f0
  have hlen := h.sh.len.2
  have hll := hide hlt
  clear h hk hlt
  generalize rd (cOf Q k) l 1 = y at *
  go_enter Try.func83, Try.ntmps83
  go_wp2_with fail
  have H2 := hide (H0.out.set 0 (.func (.func 93) #[.pointer (some ⟨a, 0, none⟩)] #[]))
  generalize hw2 : w.setCell ⟨b, 0, none⟩ (.func (.func 93) #[.pointer (some ⟨a, 0, none⟩)] #[]) = w2 at *
  clear hw2 f0 z0 H0
  have H3 := hide (show Qs w w2 a p q b g ds Q l s (ofCells a g ds.length cap ⟨.readStack, st, k, t⟩) from H2.out)
  clear H2
  have k2 := H3.out.of_.f 2
  have k3 := H3.out.of_.f 3
  have k4 := H3.out.of_.f 4
  have kr := H3.out.of_.at_ k d hd
  simp only [ofCells] at k2 k3 k4
  generalize hm : ds.length = m at k2 hlen
  have hlt : k < m := by have := hll.out; omega
  have HM := hide hm
  clear hm hll
  go_region_held3 (fun w' => w'.cell? ⟨b, 2, none⟩ = some (.slice (some ⟨g, 0, none⟩) m cap) ∧ w'.cell? ⟨b, 3, none⟩ = some (.int .i64 k) ∧ w'.cell? ⟨g, k, none⟩ = some (.pointer (some ⟨d, 0, none⟩)) ∧ w'.cell? ⟨b, 4, none⟩ = some (.int .i64 t)) (go_keep)
    (first
      | (go_at_call 94; refine (HA.out _ H3.out.sh.drew).mono ?_; rintro e w3 ⟨rfl, m1, t1⟩; have g1 := H3.out.drew.acc m1.mem rfl t1; have g2 := Qs.held g1 (by rw [HM.out]) rfl hd; have g5 := g1.of_.f 4; simp only [ofCells] at g5; have H4 := hide g1; clear HA m1 t1 g1))
  have f0 := H4.out.of_.f 0
  have z0 := H4.out.of_.fz 0
  simp only [ofCells] at f0
  clear g2 g5 k2 k3 k4 kr HM H3
  by_cases hy : t < y
  · go_wp2_with fail
    first | refine bodyPost_end (results_none rfl _ _ _) rfl ?_ | refine bodyPost_ret (results_none rfl _ _ _) rfl ?_
    exact ⟨rfl, (H4.out.set 0 _).fin rfl⟩
  · go_wp2_with fail
    first | refine bodyPost_end (results_none rfl _ _ _) rfl ?_ | refine bodyPost_ret (results_none rfl _ _ _) rfl ?_
    exact ⟨rfl, H4.out.fin rfl⟩

set_option maxRecDepth 4000 in
theorem qs_readStack (cap : Nat) (st : Int) (k : Nat) (t : Int) (hk : k < Q.cs.length) (h : Qs w w a p q b g ds Q l s (ofCells a g ds.length cap ⟨.readStack, st, k, t⟩)) :
    Calls Try.prog 93 #[.pointer (some ⟨a, 0, none⟩), .pointer (some ⟨b, 0, none⟩)] w fun e w' => e = .returned (.tuple #[]) ∧ Sh w' a p q ds Q l (wrap64 (s + 1)) ∧ OfB w' b a ds (if 0 < rd (cOf Q k) l 3 then ⟨.countOut, st, k, t⟩ else lookQ Q ⟨.readStack, st, k, t⟩ (k + 1)) ∧ Turned [p, q, b] w w' := by
  obtain ⟨d, hd⟩ : ∃ d, ds[k]? = some d := ⟨ds[k]'(by have := h.sh.len; omega), by simp⟩
  have hlt : k < ds.length := (List.getElem?_eq_some_iff.1 hd).1
  have HA := hide (fun w' (h' : Sh w' a p q ds Q l s) => stack_any w' d p q (cOf Q k) l s (h'.dq k d hd))
  have H0 := hide h
  have k2 := h.of_.f 2
  have k3 := h.of_.f 3
  have kr := h.of_.at_ k d hd
  simp only [ofCells] at k2 k3
  have hlen := h.sh.len.2
  generalize hm : ds.length = m at k2 hlen hlt
  have HM := hide hm
  clear h hk hm
  generalize rd (cOf Q k) l 3 = y at *
  go_enter Try.func93, Try.ntmps93
  go_wp2_with fail
  go_region_held3 (fun w' => w'.cell? ⟨b, 2, none⟩ = some (.slice (some ⟨g, 0, none⟩) m cap) ∧ w'.cell? ⟨b, 3, none⟩ = some (.int .i64 k) ∧ w'.cell? ⟨g, k, none⟩ = some (.pointer (some ⟨d, 0, none⟩))) (go_keep)
    (first
      | (go_at_call 100; refine (HA.out _ H0.out.sh.drew).mono ?_; rintro e w3 ⟨rfl, m1, t1⟩; have g1 := H0.out.drew.acc m1.mem rfl t1; have g2 := Qs.held g1 (by rw [HM.out]) rfl hd; have H4 := hide g1; clear HA m1 t1 g1))
  have f0 := H4.out.of_.f 0
  have z0 := H4.out.of_.fz 0
  have f3 := H4.out.of_.f 3
  simp only [ofCells] at f0 f3
  have HL := hide (qs_look w3 a p q b g ds Q l (wrap64 (s + 1)) w cap .readStack st k t (k + 1) H4.out)
  clear g2 k2 k3 kr HM H0
  by_cases hy : 0 < y
  · go_wp2_with fail
    first | refine bodyPost_end (results_none rfl _ _ _) rfl ?_ | refine bodyPost_ret (results_none rfl _ _ _) rfl ?_
    exact ⟨rfl, (H4.out.set 0 _).fin rfl⟩
  · go_wp2_with fail
    refine HL.out.mono ?_
    rintro e w2 ⟨rfl, h2⟩
    have H2 := hide h2
    clear h2 HL
    go_wp2_with fail
    first | refine bodyPost_end (results_none rfl _ _ _) rfl ?_ | refine bodyPost_ret (results_none rfl _ _ _) rfl ?_
    exact ⟨rfl, H2.out⟩
end

section
variable (w : World) (a p q b : Nat) (ds : List Nat) (Q : QC) (l : List Int) (s : Int)

theorem Qs.of {w : World} {a p q b : Nat} {ds : List Nat} {Q : QC} {l : List Int} {s : Int} {o : OfS} (h : Sh w a p q ds Q l s) (ho : OfB w b a ds o) : ∃ g cap, Qs w w a p q b g ds Q l s (ofCells a g ds.length cap o) := by
  obtain ⟨g, cap, ho⟩ := ho
  exact ⟨g, cap, h, ho, Turned.refl _ _⟩

theorem qact_any (o : OfS) (hb : -1000000 ≤ cnt Q l ∧ cnt Q l ≤ 1000000) (hk : QOk Q o) (hst : o.state = 0) (h : Sh w a p q ds Q l s) (ho : OfB w b a ds o) :
    Calls Try.prog o.at_.fn #[.pointer (some ⟨a, 0, none⟩), .pointer (some ⟨b, 0, none⟩)] w fun e w' => e = .returned (.tuple #[]) ∧ Sh w' a p q ds Q (stepQ Q l o).1 (wrap64 (s + 1)) ∧ OfB w' b a ds (stepQ Q l o).2 ∧ Turned [p, q, b] w w' := by
  obtain ⟨g, cap, H⟩ := Qs.of h ho
  obtain ⟨at_, st, k, t⟩ := o
  have hst' : st = 0 := hst
  subst hst'
  cases at_
  case countIn => exact qs_countIn w a p q b g ds Q l s cap 0 k t hb H
  case countOut => exact qs_countOut w a p q b g ds Q l s cap 0 k t hb H
  case readCount =>
    refine (qs_readCount w a p q b g ds Q l s cap k t H).mono ?_
    rintro e w' ⟨rfl, h1, h2, h3⟩
    by_cases hy : cnt Q l = Q.n
    · simp only [hy, if_true] at h2
      exact ⟨rfl, by simpa [stepQ, hy] using h1, by simpa [stepQ, hy] using h2, h3⟩
    · simp only [hy, if_false] at h2
      exact ⟨rfl, by simpa [stepQ, hy] using h1, by simpa [stepQ, hy] using h2, h3⟩
  case readTop => exact qs_readTop w a p q b g ds Q l s cap 0 k t hk H
  case readBottom => exact qs_readBottom w a p q b g ds Q l s cap 0 k t hk H
  case readStack =>
    refine (qs_readStack w a p q b g ds Q l s cap 0 k t hk H).mono ?_
    rintro e w' ⟨rfl, h1, h2, h3⟩
    by_cases hy : 0 < rd (cOf Q k) l 3
    · simp only [hy, if_true] at h2
      exact ⟨rfl, by simpa [stepQ, hy] using h1, by simpa [stepQ, hy] using h2, h3⟩
    · simp only [hy, if_false] at h2
      exact ⟨rfl, by simpa [stepQ, hy] using h1, by simpa [stepQ, hy] using h2, h3⟩

theorem state_any (o : OfS) (ho : OfB w b a ds o) :
    Calls Try.prog 15 #[.pointer (some ⟨b, 0, none⟩)] w fun e w' => e = .returned (.int .i64 o.state) ∧ w' = w := by
  have f0 := ho.f0
  have f1 := ho.f1
  have heq := eql_funcq (.func o.at_.fn) #[.pointer (some ⟨a, 0, none⟩)] #[]
  generalize o.at_.fn = K at *
  generalize o.state = y at *
  clear ho
  go_enter Try.func15, Try.ntmps15
  go_wp2_with fail
  all_goals (go_ret; exact ⟨rfl, rfl⟩)

theorem state_nil :
    Calls Try.prog 15 #[.pointer none] w fun e w' => e = .returned (.int .i64 2) ∧ w' = w := by
  go_enter Try.func15, Try.ntmps15
  go_wp2_with fail
  all_goals (go_ret; exact ⟨rfl, rfl⟩)

theorem stepQ_over {Q : QC} {l : List Int} {o : OfS} (h : o.state ≠ 0) : stepQ Q l o = (l, o) := by simp [stepQ, h]

set_option maxHeartbeats 4000000 in
set_option maxRecDepth 4000 in
theorem qstep_open (o : OfS) (hb : -1000000 ≤ cnt Q l ∧ cnt Q l ≤ 1000000) (hk : QOk Q o) (hst : o.state = 0) (h : Sh w a p q ds Q l s) (ho : OfB w b a ds o) :
    Calls Try.prog 17 #[.pointer (some ⟨b, 0, none⟩)] w fun e w' => e = .returned (.int .i64 (stepQ Q l o).2.state) ∧ (∃ s', Sh w' a p q ds Q (stepQ Q l o).1 s') ∧ OfB w' b a ds (stepQ Q l o).2 ∧ Turned [p, q, b] w w' := by
  have HA := qact_any w a p q b ds Q l s o hb hk hst h ho
  have f0 := ho.f0
  have H := hide (state_any w a b ds o ho)
  rw [hst] at H
  generalize stepQ Q l o = R at *
  clear ho h hk hst hb
  generalize o.at_ = at_ at *
  cases at_
  all_goals (
    simp only [QStp.fn] at HA f0
    have HB := hide HA
    clear HA
    go_enter Try.func17, Try.ntmps17
    go_wp2_with fail
    refine H.out.mono ?_
    rintro e w1 ⟨rfl, rfl⟩
    clear H
    go_wp2_with fail
    refine HB.out.mono ?_
    rintro e w2 ⟨rfl, h1, h2, h3⟩
    have H2 := hide (state_any w2 a b ds _ h2)
    have H3 := hide (And.intro (Exists.intro _ h1) (And.intro h2 h3))
    clear HB h1 h2 h3 f0
    go_wp2_with fail
    refine H2.out.mono ?_
    rintro e w3 ⟨rfl, rfl⟩
    go_wp2_with fail
    go_ret
    exact ⟨rfl, H3.out⟩)

theorem qstep_over (o : OfS) (hst : o.state ≠ 0) (ho : OfB w b a ds o) :
    Calls Try.prog 17 #[.pointer (some ⟨b, 0, none⟩)] w fun e w' => e = .returned (.int .i64 o.state) ∧ w' = w := by
  have H := hide (state_any w a b ds o ho)
  generalize o.state = y at *
  clear ho
  go_enter Try.func17, Try.ntmps17
  go_wp2_with fail
  refine H.out.mono ?_
  rintro e w1 ⟨rfl, rfl⟩
  go_wp2_with fail
  refine H.out.mono ?_
  rintro e w1 ⟨rfl, rfl⟩
  go_wp2_with fail
  go_ret
  exact ⟨rfl, rfl⟩

theorem qstep_any (o : OfS) (hb : -1000000 ≤ cnt Q l ∧ cnt Q l ≤ 1000000) (hk : QOk Q o) (h : Sh w a p q ds Q l s) (ho : OfB w b a ds o) :
    Calls Try.prog 17 #[.pointer (some ⟨b, 0, none⟩)] w fun e w' => e = .returned (.int .i64 (stepQ Q l o).2.state) ∧ (∃ s', Sh w' a p q ds Q (stepQ Q l o).1 s') ∧ OfB w' b a ds (stepQ Q l o).2 ∧ Turned [p, q, b] w w' := by
  by_cases hst : o.state = 0
  · exact qstep_open w a p q b ds Q l s o hb hk hst h ho
  · refine (qstep_over w a b ds o hst ho).mono ?_
    rintro e w' ⟨rfl, rfl⟩
    rw [stepQ_over hst]
    exact ⟨rfl, ⟨s, h⟩, ho, Turned.refl _ _⟩
end
end Go.Proofs.Ytokabpgdklihlaa

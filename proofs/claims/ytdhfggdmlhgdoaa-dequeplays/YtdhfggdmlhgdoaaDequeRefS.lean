/-
  The steps of the document's own operations (package ballastref06), each by its kind and its number. (Text by DequeRefS.gen.py.)
-/
import Derived.Test.YtdhfggdmlhgdoaaDequeRef
import Derived.Laws.EntriesVeiled
namespace Go.Proofs.Ytdhfggdmlhgdoaa
open Go.RowKit

section
variable (w : World) (d p q f : Nat) (C : Cfg) (l : List Int) (s : Int) (t b n v : Int) (won : Bool) (en : Int)

set_option maxHeartbeats 1000000 in
set_option maxRecDepth 10000 in
theorem rs_push0 (hne : f ≠ d ∧ f ≠ p ∧ f ≠ q) (h : RDq w d p q C l s) (ho : RB w f d ⟨0, 0, t, b, n, v, won, false, en⟩) :
    Calls Try.prog 41 #[.pointer (some ⟨f, 0, none⟩)] w fun e w' => e = .returned (.tuple #[]) ∧ RDq w' d p q C l (wrap64 (s + 1)) ∧ RB w' f d ⟨0, 1, t, (rd C l 1), n, v, won, false, en⟩ ∧ Turned [p, q, f] w w' := by
  have S0 := hide (RS.of h ho hne)
  have hC := h.cap
  have hO := h.over
  have c2 := h.c2
  have g0 := (ho).g0
  have gz0 := (ho).fz 0
  have g1 := (ho).g1
  have gz1 := (ho).fz 1
  have g2 := (ho).g2
  have gz2 := (ho).fz 2
  have g3 := (ho).g3
  have gz3 := (ho).fz 3
  have g4 := (ho).g4
  have gz4 := (ho).fz 4
  have g5 := (ho).g5
  have gz5 := (ho).fz 5
  have g6 := (ho).g6
  have gz6 := (ho).fz 6
  have g7 := (ho).g7
  have gz7 := (ho).fz 7
  have g8 := (ho).g8
  have gz8 := (ho).fz 8
  have g9 := (ho).g9
  have gz9 := (ho).fz 9
  have HL := hide (roload_any w d p q f C l s ⟨0, 0, t, b, n, v, won, false, en⟩ 1 (by omega) hne h ho)
  generalize rd C l 1 = y at *
  clear ho h
  go_enter Try.func41, Try.ntmps41
  go_wp2_with fail
  refine HL.out.mono ?_
  rintro e w1 ⟨rfl, k1, t1⟩
  have S1 := hide (S0.out.acc k1 t1)
  clear k1 t1 HL S0
  clear g0 gz0 g1 gz1 g2 gz2 g3 gz3 g4 gz4 g5 gz5 g6 gz6 g7 gz7 g8 gz8 g9 gz9
  have g0 := (S1.out.rb (r := ⟨0, 0, t, b, n, v, won, false, en⟩) rfl).g0
  have gz0 := (S1.out.rb (r := ⟨0, 0, t, b, n, v, won, false, en⟩) rfl).fz 0
  have g1 := (S1.out.rb (r := ⟨0, 0, t, b, n, v, won, false, en⟩) rfl).g1
  have gz1 := (S1.out.rb (r := ⟨0, 0, t, b, n, v, won, false, en⟩) rfl).fz 1
  have g2 := (S1.out.rb (r := ⟨0, 0, t, b, n, v, won, false, en⟩) rfl).g2
  have gz2 := (S1.out.rb (r := ⟨0, 0, t, b, n, v, won, false, en⟩) rfl).fz 2
  have g3 := (S1.out.rb (r := ⟨0, 0, t, b, n, v, won, false, en⟩) rfl).g3
  have gz3 := (S1.out.rb (r := ⟨0, 0, t, b, n, v, won, false, en⟩) rfl).fz 3
  have g4 := (S1.out.rb (r := ⟨0, 0, t, b, n, v, won, false, en⟩) rfl).g4
  have gz4 := (S1.out.rb (r := ⟨0, 0, t, b, n, v, won, false, en⟩) rfl).fz 4
  have g5 := (S1.out.rb (r := ⟨0, 0, t, b, n, v, won, false, en⟩) rfl).g5
  have gz5 := (S1.out.rb (r := ⟨0, 0, t, b, n, v, won, false, en⟩) rfl).fz 5
  have g6 := (S1.out.rb (r := ⟨0, 0, t, b, n, v, won, false, en⟩) rfl).g6
  have gz6 := (S1.out.rb (r := ⟨0, 0, t, b, n, v, won, false, en⟩) rfl).fz 6
  have g7 := (S1.out.rb (r := ⟨0, 0, t, b, n, v, won, false, en⟩) rfl).g7
  have gz7 := (S1.out.rb (r := ⟨0, 0, t, b, n, v, won, false, en⟩) rfl).fz 7
  have g8 := (S1.out.rb (r := ⟨0, 0, t, b, n, v, won, false, en⟩) rfl).g8
  have gz8 := (S1.out.rb (r := ⟨0, 0, t, b, n, v, won, false, en⟩) rfl).fz 8
  have g9 := (S1.out.rb (r := ⟨0, 0, t, b, n, v, won, false, en⟩) rfl).g9
  have gz9 := (S1.out.rb (r := ⟨0, 0, t, b, n, v, won, false, en⟩) rfl).fz 9
  go_wp2_with fail
  first | refine bodyPost_end (results_none rfl _ _ _) rfl ?_ | refine bodyPost_ret (results_none rfl _ _ _) rfl ?_
  exact ⟨rfl, ((S1.out.set 4 _).set 2 _).fin rfl⟩

set_option maxHeartbeats 1000000 in
set_option maxRecDepth 10000 in
theorem rs_steal0 (hne : f ≠ d ∧ f ≠ p ∧ f ≠ q) (h : RDq w d p q C l s) (ho : RB w f d ⟨2, 0, t, b, n, v, won, false, en⟩) :
    Calls Try.prog 43 #[.pointer (some ⟨f, 0, none⟩)] w fun e w' => e = .returned (.tuple #[]) ∧ RDq w' d p q C l (wrap64 (s + 1)) ∧ RB w' f d ⟨2, 1, (rd C l 0), b, n, v, won, false, en⟩ ∧ Turned [p, q, f] w w' := by
  have S0 := hide (RS.of h ho hne)
  have hC := h.cap
  have hO := h.over
  have c2 := h.c2
  have g0 := (ho).g0
  have gz0 := (ho).fz 0
  have g1 := (ho).g1
  have gz1 := (ho).fz 1
  have g2 := (ho).g2
  have gz2 := (ho).fz 2
  have g3 := (ho).g3
  have gz3 := (ho).fz 3
  have g4 := (ho).g4
  have gz4 := (ho).fz 4
  have g5 := (ho).g5
  have gz5 := (ho).fz 5
  have g6 := (ho).g6
  have gz6 := (ho).fz 6
  have g7 := (ho).g7
  have gz7 := (ho).fz 7
  have g8 := (ho).g8
  have gz8 := (ho).fz 8
  have g9 := (ho).g9
  have gz9 := (ho).fz 9
  have HL := hide (roload_any w d p q f C l s ⟨2, 0, t, b, n, v, won, false, en⟩ 0 (by omega) hne h ho)
  generalize rd C l 0 = y at *
  clear ho h
  go_enter Try.func43, Try.ntmps43
  go_wp2_with fail
  refine HL.out.mono ?_
  rintro e w1 ⟨rfl, k1, t1⟩
  have S1 := hide (S0.out.acc k1 t1)
  clear k1 t1 HL S0
  clear g0 gz0 g1 gz1 g2 gz2 g3 gz3 g4 gz4 g5 gz5 g6 gz6 g7 gz7 g8 gz8 g9 gz9
  have g0 := (S1.out.rb (r := ⟨2, 0, t, b, n, v, won, false, en⟩) rfl).g0
  have gz0 := (S1.out.rb (r := ⟨2, 0, t, b, n, v, won, false, en⟩) rfl).fz 0
  have g1 := (S1.out.rb (r := ⟨2, 0, t, b, n, v, won, false, en⟩) rfl).g1
  have gz1 := (S1.out.rb (r := ⟨2, 0, t, b, n, v, won, false, en⟩) rfl).fz 1
  have g2 := (S1.out.rb (r := ⟨2, 0, t, b, n, v, won, false, en⟩) rfl).g2
  have gz2 := (S1.out.rb (r := ⟨2, 0, t, b, n, v, won, false, en⟩) rfl).fz 2
  have g3 := (S1.out.rb (r := ⟨2, 0, t, b, n, v, won, false, en⟩) rfl).g3
  have gz3 := (S1.out.rb (r := ⟨2, 0, t, b, n, v, won, false, en⟩) rfl).fz 3
  have g4 := (S1.out.rb (r := ⟨2, 0, t, b, n, v, won, false, en⟩) rfl).g4
  have gz4 := (S1.out.rb (r := ⟨2, 0, t, b, n, v, won, false, en⟩) rfl).fz 4
  have g5 := (S1.out.rb (r := ⟨2, 0, t, b, n, v, won, false, en⟩) rfl).g5
  have gz5 := (S1.out.rb (r := ⟨2, 0, t, b, n, v, won, false, en⟩) rfl).fz 5
  have g6 := (S1.out.rb (r := ⟨2, 0, t, b, n, v, won, false, en⟩) rfl).g6
  have gz6 := (S1.out.rb (r := ⟨2, 0, t, b, n, v, won, false, en⟩) rfl).fz 6
  have g7 := (S1.out.rb (r := ⟨2, 0, t, b, n, v, won, false, en⟩) rfl).g7
  have gz7 := (S1.out.rb (r := ⟨2, 0, t, b, n, v, won, false, en⟩) rfl).fz 7
  have g8 := (S1.out.rb (r := ⟨2, 0, t, b, n, v, won, false, en⟩) rfl).g8
  have gz8 := (S1.out.rb (r := ⟨2, 0, t, b, n, v, won, false, en⟩) rfl).fz 8
  have g9 := (S1.out.rb (r := ⟨2, 0, t, b, n, v, won, false, en⟩) rfl).g9
  have gz9 := (S1.out.rb (r := ⟨2, 0, t, b, n, v, won, false, en⟩) rfl).fz 9
  go_wp2_with fail
  first | refine bodyPost_end (results_none rfl _ _ _) rfl ?_ | refine bodyPost_ret (results_none rfl _ _ _) rfl ?_
  exact ⟨rfl, ((S1.out.set 3 _).set 2 _).fin rfl⟩

set_option maxHeartbeats 1000000 in
set_option maxRecDepth 10000 in
theorem rs_pop0 (hy : -2305843009213693952 ≤ rd C l 1 ∧ rd C l 1 ≤ 2305843009213693952) (hne : f ≠ d ∧ f ≠ p ∧ f ≠ q) (h : RDq w d p q C l s) (ho : RB w f d ⟨1, 0, t, b, n, v, won, false, en⟩) :
    Calls Try.prog 42 #[.pointer (some ⟨f, 0, none⟩)] w fun e w' => e = .returned (.tuple #[]) ∧ RDq w' d p q C l (wrap64 (s + 1)) ∧ RB w' f d ⟨1, 1, t, (rd C l 1 - 1), n, v, won, false, en⟩ ∧ Turned [p, q, f] w w' := by
  have S0 := hide (RS.of h ho hne)
  have hC := h.cap
  have hO := h.over
  have c2 := h.c2
  have g0 := (ho).g0
  have gz0 := (ho).fz 0
  have g1 := (ho).g1
  have gz1 := (ho).fz 1
  have g2 := (ho).g2
  have gz2 := (ho).fz 2
  have g3 := (ho).g3
  have gz3 := (ho).fz 3
  have g4 := (ho).g4
  have gz4 := (ho).fz 4
  have g5 := (ho).g5
  have gz5 := (ho).fz 5
  have g6 := (ho).g6
  have gz6 := (ho).fz 6
  have g7 := (ho).g7
  have gz7 := (ho).fz 7
  have g8 := (ho).g8
  have gz8 := (ho).fz 8
  have g9 := (ho).g9
  have gz9 := (ho).fz 9
  have HL := hide (roload_any w d p q f C l s ⟨1, 0, t, b, n, v, won, false, en⟩ 1 (by omega) hne h ho)
  generalize rd C l 1 = y at *
  clear ho h
  go_enter Try.func42, Try.ntmps42
  go_wp2_with fail
  refine HL.out.mono ?_
  rintro e w1 ⟨rfl, k1, t1⟩
  have S1 := hide (S0.out.acc k1 t1)
  clear k1 t1 HL S0
  clear g0 gz0 g1 gz1 g2 gz2 g3 gz3 g4 gz4 g5 gz5 g6 gz6 g7 gz7 g8 gz8 g9 gz9
  have g0 := (S1.out.rb (r := ⟨1, 0, t, b, n, v, won, false, en⟩) rfl).g0
  have gz0 := (S1.out.rb (r := ⟨1, 0, t, b, n, v, won, false, en⟩) rfl).fz 0
  have g1 := (S1.out.rb (r := ⟨1, 0, t, b, n, v, won, false, en⟩) rfl).g1
  have gz1 := (S1.out.rb (r := ⟨1, 0, t, b, n, v, won, false, en⟩) rfl).fz 1
  have g2 := (S1.out.rb (r := ⟨1, 0, t, b, n, v, won, false, en⟩) rfl).g2
  have gz2 := (S1.out.rb (r := ⟨1, 0, t, b, n, v, won, false, en⟩) rfl).fz 2
  have g3 := (S1.out.rb (r := ⟨1, 0, t, b, n, v, won, false, en⟩) rfl).g3
  have gz3 := (S1.out.rb (r := ⟨1, 0, t, b, n, v, won, false, en⟩) rfl).fz 3
  have g4 := (S1.out.rb (r := ⟨1, 0, t, b, n, v, won, false, en⟩) rfl).g4
  have gz4 := (S1.out.rb (r := ⟨1, 0, t, b, n, v, won, false, en⟩) rfl).fz 4
  have g5 := (S1.out.rb (r := ⟨1, 0, t, b, n, v, won, false, en⟩) rfl).g5
  have gz5 := (S1.out.rb (r := ⟨1, 0, t, b, n, v, won, false, en⟩) rfl).fz 5
  have g6 := (S1.out.rb (r := ⟨1, 0, t, b, n, v, won, false, en⟩) rfl).g6
  have gz6 := (S1.out.rb (r := ⟨1, 0, t, b, n, v, won, false, en⟩) rfl).fz 6
  have g7 := (S1.out.rb (r := ⟨1, 0, t, b, n, v, won, false, en⟩) rfl).g7
  have gz7 := (S1.out.rb (r := ⟨1, 0, t, b, n, v, won, false, en⟩) rfl).fz 7
  have g8 := (S1.out.rb (r := ⟨1, 0, t, b, n, v, won, false, en⟩) rfl).g8
  have gz8 := (S1.out.rb (r := ⟨1, 0, t, b, n, v, won, false, en⟩) rfl).fz 8
  have g9 := (S1.out.rb (r := ⟨1, 0, t, b, n, v, won, false, en⟩) rfl).g9
  have gz9 := (S1.out.rb (r := ⟨1, 0, t, b, n, v, won, false, en⟩) rfl).fz 9
  go_wp2_with fail
  first | refine bodyPost_end (results_none rfl _ _ _) rfl ?_ | refine bodyPost_ret (results_none rfl _ _ _) rfl ?_
  exact ⟨rfl, ((S1.out.set 4 _).set 2 _).fin rfl⟩

set_option maxHeartbeats 1000000 in
set_option maxRecDepth 10000 in
theorem rs_push3 (hb : -2305843009213693952 ≤ b ∧ b ≤ 2305843009213693952) (hne : f ≠ d ∧ f ≠ p ∧ f ≠ q) (h : RDq w d p q C l s) (ho : RB w f d ⟨0, 3, t, b, n, v, won, false, en⟩) :
    Calls Try.prog 41 #[.pointer (some ⟨f, 0, none⟩)] w fun e w' => e = .returned (.tuple #[]) ∧ RDq w' d p q C (wr C l 1 (b + 1)) (wrap64 (s + 1)) ∧ RB w' f d ⟨0, 3, t, b, n, (if 0 = 0 then v else 0), won, true, 0⟩ ∧ Turned [p, q, f] w w' := by
  have S0 := hide (RS.of h ho hne)
  have hC := h.cap
  have hO := h.over
  have c2 := h.c2
  have g0 := (ho).g0
  have gz0 := (ho).fz 0
  have g1 := (ho).g1
  have gz1 := (ho).fz 1
  have g2 := (ho).g2
  have gz2 := (ho).fz 2
  have g3 := (ho).g3
  have gz3 := (ho).fz 3
  have g4 := (ho).g4
  have gz4 := (ho).fz 4
  have g5 := (ho).g5
  have gz5 := (ho).fz 5
  have g6 := (ho).g6
  have gz6 := (ho).fz 6
  have g7 := (ho).g7
  have gz7 := (ho).fz 7
  have g8 := (ho).g8
  have gz8 := (ho).fz 8
  have g9 := (ho).g9
  have gz9 := (ho).fz 9
  have HL := hide (rostore_any w d p q f C l s ⟨0, 3, t, b, n, v, won, false, en⟩ 1 (b + 1) (by omega) hne h ho)
  generalize wr C l 1 (b + 1) = l2 at *
  clear ho h
  go_enter Try.func41, Try.ntmps41
  go_wp2_with fail
  refine HL.out.mono ?_
  rintro e w1 ⟨rfl, k1, t1⟩
  have S1 := hide (S0.out.acc k1 t1)
  clear k1 t1 HL S0
  clear g0 gz0 g1 gz1 g2 gz2 g3 gz3 g4 gz4 g5 gz5 g6 gz6 g7 gz7 g8 gz8 g9 gz9
  have g0 := (S1.out.rb (r := ⟨0, 3, t, b, n, v, won, false, en⟩) rfl).g0
  have gz0 := (S1.out.rb (r := ⟨0, 3, t, b, n, v, won, false, en⟩) rfl).fz 0
  have g1 := (S1.out.rb (r := ⟨0, 3, t, b, n, v, won, false, en⟩) rfl).g1
  have gz1 := (S1.out.rb (r := ⟨0, 3, t, b, n, v, won, false, en⟩) rfl).fz 1
  have g2 := (S1.out.rb (r := ⟨0, 3, t, b, n, v, won, false, en⟩) rfl).g2
  have gz2 := (S1.out.rb (r := ⟨0, 3, t, b, n, v, won, false, en⟩) rfl).fz 2
  have g3 := (S1.out.rb (r := ⟨0, 3, t, b, n, v, won, false, en⟩) rfl).g3
  have gz3 := (S1.out.rb (r := ⟨0, 3, t, b, n, v, won, false, en⟩) rfl).fz 3
  have g4 := (S1.out.rb (r := ⟨0, 3, t, b, n, v, won, false, en⟩) rfl).g4
  have gz4 := (S1.out.rb (r := ⟨0, 3, t, b, n, v, won, false, en⟩) rfl).fz 4
  have g5 := (S1.out.rb (r := ⟨0, 3, t, b, n, v, won, false, en⟩) rfl).g5
  have gz5 := (S1.out.rb (r := ⟨0, 3, t, b, n, v, won, false, en⟩) rfl).fz 5
  have g6 := (S1.out.rb (r := ⟨0, 3, t, b, n, v, won, false, en⟩) rfl).g6
  have gz6 := (S1.out.rb (r := ⟨0, 3, t, b, n, v, won, false, en⟩) rfl).fz 6
  have g7 := (S1.out.rb (r := ⟨0, 3, t, b, n, v, won, false, en⟩) rfl).g7
  have gz7 := (S1.out.rb (r := ⟨0, 3, t, b, n, v, won, false, en⟩) rfl).fz 7
  have g8 := (S1.out.rb (r := ⟨0, 3, t, b, n, v, won, false, en⟩) rfl).g8
  have gz8 := (S1.out.rb (r := ⟨0, 3, t, b, n, v, won, false, en⟩) rfl).fz 8
  have g9 := (S1.out.rb (r := ⟨0, 3, t, b, n, v, won, false, en⟩) rfl).g9
  have gz9 := (S1.out.rb (r := ⟨0, 3, t, b, n, v, won, false, en⟩) rfl).fz 9
  have HE := hide (rends_any w1 d f ⟨0, 3, t, b, n, v, won, false, en⟩ 0 (S1.out.rb rfl))
  go_wp2_with fail
  refine HE.out.mono ?_
  rintro e w2 ⟨rfl, k2, t2⟩
  have S2 := hide (S1.out.endd k2 t2)
  clear k2 t2 HE S1
  go_wp2_with fail
  first | refine bodyPost_end (results_none rfl _ _ _) rfl ?_ | refine bodyPost_ret (results_none rfl _ _ _) rfl ?_
  exact ⟨rfl, S2.out.fin rfl⟩

set_option maxHeartbeats 1000000 in
set_option maxRecDepth 10000 in
theorem rs_pop1 (hne : f ≠ d ∧ f ≠ p ∧ f ≠ q) (h : RDq w d p q C l s) (ho : RB w f d ⟨1, 1, t, b, n, v, won, false, en⟩) :
    Calls Try.prog 42 #[.pointer (some ⟨f, 0, none⟩)] w fun e w' => e = .returned (.tuple #[]) ∧ RDq w' d p q C (wr C l 1 b) (wrap64 (s + 1)) ∧ RB w' f d ⟨1, 2, t, b, n, v, won, false, en⟩ ∧ Turned [p, q, f] w w' := by
  have S0 := hide (RS.of h ho hne)
  have hC := h.cap
  have hO := h.over
  have c2 := h.c2
  have g0 := (ho).g0
  have gz0 := (ho).fz 0
  have g1 := (ho).g1
  have gz1 := (ho).fz 1
  have g2 := (ho).g2
  have gz2 := (ho).fz 2
  have g3 := (ho).g3
  have gz3 := (ho).fz 3
  have g4 := (ho).g4
  have gz4 := (ho).fz 4
  have g5 := (ho).g5
  have gz5 := (ho).fz 5
  have g6 := (ho).g6
  have gz6 := (ho).fz 6
  have g7 := (ho).g7
  have gz7 := (ho).fz 7
  have g8 := (ho).g8
  have gz8 := (ho).fz 8
  have g9 := (ho).g9
  have gz9 := (ho).fz 9
  have HL := hide (rostore_any w d p q f C l s ⟨1, 1, t, b, n, v, won, false, en⟩ 1 b (by omega) hne h ho)
  generalize wr C l 1 b = l2 at *
  clear ho h
  go_enter Try.func42, Try.ntmps42
  go_wp2_with fail
  refine HL.out.mono ?_
  rintro e w1 ⟨rfl, k1, t1⟩
  have S1 := hide (S0.out.acc k1 t1)
  clear k1 t1 HL S0
  clear g0 gz0 g1 gz1 g2 gz2 g3 gz3 g4 gz4 g5 gz5 g6 gz6 g7 gz7 g8 gz8 g9 gz9
  have g0 := (S1.out.rb (r := ⟨1, 1, t, b, n, v, won, false, en⟩) rfl).g0
  have gz0 := (S1.out.rb (r := ⟨1, 1, t, b, n, v, won, false, en⟩) rfl).fz 0
  have g1 := (S1.out.rb (r := ⟨1, 1, t, b, n, v, won, false, en⟩) rfl).g1
  have gz1 := (S1.out.rb (r := ⟨1, 1, t, b, n, v, won, false, en⟩) rfl).fz 1
  have g2 := (S1.out.rb (r := ⟨1, 1, t, b, n, v, won, false, en⟩) rfl).g2
  have gz2 := (S1.out.rb (r := ⟨1, 1, t, b, n, v, won, false, en⟩) rfl).fz 2
  have g3 := (S1.out.rb (r := ⟨1, 1, t, b, n, v, won, false, en⟩) rfl).g3
  have gz3 := (S1.out.rb (r := ⟨1, 1, t, b, n, v, won, false, en⟩) rfl).fz 3
  have g4 := (S1.out.rb (r := ⟨1, 1, t, b, n, v, won, false, en⟩) rfl).g4
  have gz4 := (S1.out.rb (r := ⟨1, 1, t, b, n, v, won, false, en⟩) rfl).fz 4
  have g5 := (S1.out.rb (r := ⟨1, 1, t, b, n, v, won, false, en⟩) rfl).g5
  have gz5 := (S1.out.rb (r := ⟨1, 1, t, b, n, v, won, false, en⟩) rfl).fz 5
  have g6 := (S1.out.rb (r := ⟨1, 1, t, b, n, v, won, false, en⟩) rfl).g6
  have gz6 := (S1.out.rb (r := ⟨1, 1, t, b, n, v, won, false, en⟩) rfl).fz 6
  have g7 := (S1.out.rb (r := ⟨1, 1, t, b, n, v, won, false, en⟩) rfl).g7
  have gz7 := (S1.out.rb (r := ⟨1, 1, t, b, n, v, won, false, en⟩) rfl).fz 7
  have g8 := (S1.out.rb (r := ⟨1, 1, t, b, n, v, won, false, en⟩) rfl).g8
  have gz8 := (S1.out.rb (r := ⟨1, 1, t, b, n, v, won, false, en⟩) rfl).fz 8
  have g9 := (S1.out.rb (r := ⟨1, 1, t, b, n, v, won, false, en⟩) rfl).g9
  have gz9 := (S1.out.rb (r := ⟨1, 1, t, b, n, v, won, false, en⟩) rfl).fz 9
  go_wp2_with fail
  first | refine bodyPost_end (results_none rfl _ _ _) rfl ?_ | refine bodyPost_ret (results_none rfl _ _ _) rfl ?_
  exact ⟨rfl, (S1.out.set 2 _).fin rfl⟩

set_option maxHeartbeats 1000000 in
set_option maxRecDepth 10000 in
theorem rs_pop6 (hne : f ≠ d ∧ f ≠ p ∧ f ≠ q) (h : RDq w d p q C l s) (ho : RB w f d ⟨1, 6, t, b, n, v, won, false, en⟩) :
    Calls Try.prog 42 #[.pointer (some ⟨f, 0, none⟩)] w fun e w' => e = .returned (.tuple #[]) ∧ RDq w' d p q C (wr C l 1 t) (wrap64 (s + 1)) ∧ RB w' f d ⟨1, 20, t, b, n, v, won, false, en⟩ ∧ Turned [p, q, f] w w' := by
  have S0 := hide (RS.of h ho hne)
  have hC := h.cap
  have hO := h.over
  have c2 := h.c2
  have g0 := (ho).g0
  have gz0 := (ho).fz 0
  have g1 := (ho).g1
  have gz1 := (ho).fz 1
  have g2 := (ho).g2
  have gz2 := (ho).fz 2
  have g3 := (ho).g3
  have gz3 := (ho).fz 3
  have g4 := (ho).g4
  have gz4 := (ho).fz 4
  have g5 := (ho).g5
  have gz5 := (ho).fz 5
  have g6 := (ho).g6
  have gz6 := (ho).fz 6
  have g7 := (ho).g7
  have gz7 := (ho).fz 7
  have g8 := (ho).g8
  have gz8 := (ho).fz 8
  have g9 := (ho).g9
  have gz9 := (ho).fz 9
  have HL := hide (rostore_any w d p q f C l s ⟨1, 6, t, b, n, v, won, false, en⟩ 1 t (by omega) hne h ho)
  generalize wr C l 1 t = l2 at *
  clear ho h
  go_enter Try.func42, Try.ntmps42
  go_wp2_with fail
  refine HL.out.mono ?_
  rintro e w1 ⟨rfl, k1, t1⟩
  have S1 := hide (S0.out.acc k1 t1)
  clear k1 t1 HL S0
  clear g0 gz0 g1 gz1 g2 gz2 g3 gz3 g4 gz4 g5 gz5 g6 gz6 g7 gz7 g8 gz8 g9 gz9
  have g0 := (S1.out.rb (r := ⟨1, 6, t, b, n, v, won, false, en⟩) rfl).g0
  have gz0 := (S1.out.rb (r := ⟨1, 6, t, b, n, v, won, false, en⟩) rfl).fz 0
  have g1 := (S1.out.rb (r := ⟨1, 6, t, b, n, v, won, false, en⟩) rfl).g1
  have gz1 := (S1.out.rb (r := ⟨1, 6, t, b, n, v, won, false, en⟩) rfl).fz 1
  have g2 := (S1.out.rb (r := ⟨1, 6, t, b, n, v, won, false, en⟩) rfl).g2
  have gz2 := (S1.out.rb (r := ⟨1, 6, t, b, n, v, won, false, en⟩) rfl).fz 2
  have g3 := (S1.out.rb (r := ⟨1, 6, t, b, n, v, won, false, en⟩) rfl).g3
  have gz3 := (S1.out.rb (r := ⟨1, 6, t, b, n, v, won, false, en⟩) rfl).fz 3
  have g4 := (S1.out.rb (r := ⟨1, 6, t, b, n, v, won, false, en⟩) rfl).g4
  have gz4 := (S1.out.rb (r := ⟨1, 6, t, b, n, v, won, false, en⟩) rfl).fz 4
  have g5 := (S1.out.rb (r := ⟨1, 6, t, b, n, v, won, false, en⟩) rfl).g5
  have gz5 := (S1.out.rb (r := ⟨1, 6, t, b, n, v, won, false, en⟩) rfl).fz 5
  have g6 := (S1.out.rb (r := ⟨1, 6, t, b, n, v, won, false, en⟩) rfl).g6
  have gz6 := (S1.out.rb (r := ⟨1, 6, t, b, n, v, won, false, en⟩) rfl).fz 6
  have g7 := (S1.out.rb (r := ⟨1, 6, t, b, n, v, won, false, en⟩) rfl).g7
  have gz7 := (S1.out.rb (r := ⟨1, 6, t, b, n, v, won, false, en⟩) rfl).fz 7
  have g8 := (S1.out.rb (r := ⟨1, 6, t, b, n, v, won, false, en⟩) rfl).g8
  have gz8 := (S1.out.rb (r := ⟨1, 6, t, b, n, v, won, false, en⟩) rfl).fz 8
  have g9 := (S1.out.rb (r := ⟨1, 6, t, b, n, v, won, false, en⟩) rfl).g9
  have gz9 := (S1.out.rb (r := ⟨1, 6, t, b, n, v, won, false, en⟩) rfl).fz 9
  go_wp2_with fail
  first | refine bodyPost_end (results_none rfl _ _ _) rfl ?_ | refine bodyPost_ret (results_none rfl _ _ _) rfl ?_
  exact ⟨rfl, (S1.out.set 2 _).fin rfl⟩

set_option maxHeartbeats 1000000 in
set_option maxRecDepth 10000 in
theorem rs_stk24 (kk : Int) (hne : f ≠ d ∧ f ≠ p ∧ f ≠ q) (h : RDq w d p q C l s) (ho : RB w f d ⟨kk, 24, t, b, n, v, won, false, en⟩) :
    Calls Try.prog 40 #[.pointer (some ⟨f, 0, none⟩)] w fun e w' => e = .returned (.tuple #[]) ∧ RDq w' d p q C (wr C l 2 0) (wrap64 (s + 1)) ∧ RB w' f d ⟨kk, 24, t, b, n, (if en = 0 then v else 0), won, true, en⟩ ∧ Turned [p, q, f] w w' := by
  have S0 := hide (RS.of h ho hne)
  have hC := h.cap
  have hO := h.over
  have c2 := h.c2
  have g0 := (ho).g0
  have gz0 := (ho).fz 0
  have g1 := (ho).g1
  have gz1 := (ho).fz 1
  have g2 := (ho).g2
  have gz2 := (ho).fz 2
  have g3 := (ho).g3
  have gz3 := (ho).fz 3
  have g4 := (ho).g4
  have gz4 := (ho).fz 4
  have g5 := (ho).g5
  have gz5 := (ho).fz 5
  have g6 := (ho).g6
  have gz6 := (ho).fz 6
  have g7 := (ho).g7
  have gz7 := (ho).fz 7
  have g8 := (ho).g8
  have gz8 := (ho).fz 8
  have g9 := (ho).g9
  have gz9 := (ho).fz 9
  have HL := hide (rostore_any w d p q f C l s ⟨kk, 24, t, b, n, v, won, false, en⟩ 2 0 (by omega) hne h ho)
  generalize wr C l 2 0 = l2 at *
  by_cases hen : en = 0
  · subst hen
    clear ho h
    go_enter Try.func40, Try.ntmps40
    go_wp2_with fail
    refine HL.out.mono ?_
    rintro e w1 ⟨rfl, k1, t1⟩
    have S1 := hide (S0.out.acc k1 t1)
    clear k1 t1 HL S0
    clear g0 gz0 g1 gz1 g2 gz2 g3 gz3 g4 gz4 g5 gz5 g6 gz6 g7 gz7 g8 gz8 g9 gz9
    have g0 := (S1.out.rb (r := ⟨kk, 24, t, b, n, v, won, false, 0⟩) rfl).g0
    have gz0 := (S1.out.rb (r := ⟨kk, 24, t, b, n, v, won, false, 0⟩) rfl).fz 0
    have g1 := (S1.out.rb (r := ⟨kk, 24, t, b, n, v, won, false, 0⟩) rfl).g1
    have gz1 := (S1.out.rb (r := ⟨kk, 24, t, b, n, v, won, false, 0⟩) rfl).fz 1
    have g2 := (S1.out.rb (r := ⟨kk, 24, t, b, n, v, won, false, 0⟩) rfl).g2
    have gz2 := (S1.out.rb (r := ⟨kk, 24, t, b, n, v, won, false, 0⟩) rfl).fz 2
    have g3 := (S1.out.rb (r := ⟨kk, 24, t, b, n, v, won, false, 0⟩) rfl).g3
    have gz3 := (S1.out.rb (r := ⟨kk, 24, t, b, n, v, won, false, 0⟩) rfl).fz 3
    have g4 := (S1.out.rb (r := ⟨kk, 24, t, b, n, v, won, false, 0⟩) rfl).g4
    have gz4 := (S1.out.rb (r := ⟨kk, 24, t, b, n, v, won, false, 0⟩) rfl).fz 4
    have g5 := (S1.out.rb (r := ⟨kk, 24, t, b, n, v, won, false, 0⟩) rfl).g5
    have gz5 := (S1.out.rb (r := ⟨kk, 24, t, b, n, v, won, false, 0⟩) rfl).fz 5
    have g6 := (S1.out.rb (r := ⟨kk, 24, t, b, n, v, won, false, 0⟩) rfl).g6
    have gz6 := (S1.out.rb (r := ⟨kk, 24, t, b, n, v, won, false, 0⟩) rfl).fz 6
    have g7 := (S1.out.rb (r := ⟨kk, 24, t, b, n, v, won, false, 0⟩) rfl).g7
    have gz7 := (S1.out.rb (r := ⟨kk, 24, t, b, n, v, won, false, 0⟩) rfl).fz 7
    have g8 := (S1.out.rb (r := ⟨kk, 24, t, b, n, v, won, false, 0⟩) rfl).g8
    have gz8 := (S1.out.rb (r := ⟨kk, 24, t, b, n, v, won, false, 0⟩) rfl).fz 8
    have g9 := (S1.out.rb (r := ⟨kk, 24, t, b, n, v, won, false, 0⟩) rfl).g9
    have gz9 := (S1.out.rb (r := ⟨kk, 24, t, b, n, v, won, false, 0⟩) rfl).fz 9
    have HE := hide (rends_any w1 d f ⟨kk, 24, t, b, n, v, won, false, 0⟩ 0 (S1.out.rb rfl))
    go_wp2_with fail
    refine HE.out.mono ?_
    rintro e w2 ⟨rfl, k2, t2⟩
    have S2 := hide (S1.out.endd k2 t2)
    clear k2 t2 HE S1
    go_wp2_with fail
    first | refine bodyPost_end (results_none rfl _ _ _) rfl ?_ | refine bodyPost_ret (results_none rfl _ _ _) rfl ?_
    exact ⟨rfl, S2.out.fin rfl⟩
  · rw [if_neg hen]
    clear ho h
    go_enter Try.func40, Try.ntmps40
    go_wp2_with fail
    refine HL.out.mono ?_
    rintro e w1 ⟨rfl, k1, t1⟩
    have S1 := hide (S0.out.acc k1 t1)
    clear k1 t1 HL S0
    clear g0 gz0 g1 gz1 g2 gz2 g3 gz3 g4 gz4 g5 gz5 g6 gz6 g7 gz7 g8 gz8 g9 gz9
    have g0 := (S1.out.rb (r := ⟨kk, 24, t, b, n, v, won, false, en⟩) rfl).g0
    have gz0 := (S1.out.rb (r := ⟨kk, 24, t, b, n, v, won, false, en⟩) rfl).fz 0
    have g1 := (S1.out.rb (r := ⟨kk, 24, t, b, n, v, won, false, en⟩) rfl).g1
    have gz1 := (S1.out.rb (r := ⟨kk, 24, t, b, n, v, won, false, en⟩) rfl).fz 1
    have g2 := (S1.out.rb (r := ⟨kk, 24, t, b, n, v, won, false, en⟩) rfl).g2
    have gz2 := (S1.out.rb (r := ⟨kk, 24, t, b, n, v, won, false, en⟩) rfl).fz 2
    have g3 := (S1.out.rb (r := ⟨kk, 24, t, b, n, v, won, false, en⟩) rfl).g3
    have gz3 := (S1.out.rb (r := ⟨kk, 24, t, b, n, v, won, false, en⟩) rfl).fz 3
    have g4 := (S1.out.rb (r := ⟨kk, 24, t, b, n, v, won, false, en⟩) rfl).g4
    have gz4 := (S1.out.rb (r := ⟨kk, 24, t, b, n, v, won, false, en⟩) rfl).fz 4
    have g5 := (S1.out.rb (r := ⟨kk, 24, t, b, n, v, won, false, en⟩) rfl).g5
    have gz5 := (S1.out.rb (r := ⟨kk, 24, t, b, n, v, won, false, en⟩) rfl).fz 5
    have g6 := (S1.out.rb (r := ⟨kk, 24, t, b, n, v, won, false, en⟩) rfl).g6
    have gz6 := (S1.out.rb (r := ⟨kk, 24, t, b, n, v, won, false, en⟩) rfl).fz 6
    have g7 := (S1.out.rb (r := ⟨kk, 24, t, b, n, v, won, false, en⟩) rfl).g7
    have gz7 := (S1.out.rb (r := ⟨kk, 24, t, b, n, v, won, false, en⟩) rfl).fz 7
    have g8 := (S1.out.rb (r := ⟨kk, 24, t, b, n, v, won, false, en⟩) rfl).g8
    have gz8 := (S1.out.rb (r := ⟨kk, 24, t, b, n, v, won, false, en⟩) rfl).fz 8
    have g9 := (S1.out.rb (r := ⟨kk, 24, t, b, n, v, won, false, en⟩) rfl).g9
    have gz9 := (S1.out.rb (r := ⟨kk, 24, t, b, n, v, won, false, en⟩) rfl).fz 9
    have HE := hide (rends_any w1 d f ⟨kk, 24, t, b, n, v, won, false, en⟩ en (S1.out.rb rfl))
    rw [if_neg hen] at HE
    go_wp2_with fail
    refine HE.out.mono ?_
    rintro e w2 ⟨rfl, k2, t2⟩
    have S2 := hide (S1.out.endd k2 t2)
    clear k2 t2 HE S1
    go_wp2_with fail
    first | refine bodyPost_end (results_none rfl _ _ _) rfl ?_ | refine bodyPost_ret (results_none rfl _ _ _) rfl ?_
    exact ⟨rfl, S2.out.fin rfl⟩

set_option maxHeartbeats 1000000 in
set_option maxRecDepth 10000 in
theorem rs_stk23a (hn : 0 ≤ n ∧ n ≤ 4096) (hne : f ≠ d ∧ f ≠ p ∧ f ≠ q) (h : RDq w d p q C l s) (ho : RB w f d ⟨0, 23, t, b, n, v, won, false, en⟩) :
    Calls Try.prog 40 #[.pointer (some ⟨f, 0, none⟩)] w fun e w' => e = .returned (.tuple #[]) ∧ RDq w' d p q C (wr C l 3 (n + 1)) (wrap64 (s + 1)) ∧ RB w' f d ⟨0, 24, t, b, n, v, won, false, en⟩ ∧ Turned [p, q, f] w w' := by
  have S0 := hide (RS.of h ho hne)
  have hC := h.cap
  have hO := h.over
  have c2 := h.c2
  have g0 := (ho).g0
  have gz0 := (ho).fz 0
  have g1 := (ho).g1
  have gz1 := (ho).fz 1
  have g2 := (ho).g2
  have gz2 := (ho).fz 2
  have g3 := (ho).g3
  have gz3 := (ho).fz 3
  have g4 := (ho).g4
  have gz4 := (ho).fz 4
  have g5 := (ho).g5
  have gz5 := (ho).fz 5
  have g6 := (ho).g6
  have gz6 := (ho).fz 6
  have g7 := (ho).g7
  have gz7 := (ho).fz 7
  have g8 := (ho).g8
  have gz8 := (ho).fz 8
  have g9 := (ho).g9
  have gz9 := (ho).fz 9
  have HL := hide (rostore_any w d p q f C l s ⟨0, 23, t, b, n, v, won, false, en⟩ 3 (n + 1) (by omega) hne h ho)
  generalize wr C l 3 (n + 1) = l2 at *
  clear ho h
  go_enter Try.func40, Try.ntmps40
  go_wp2_with fail
  refine HL.out.mono ?_
  rintro e w1 ⟨rfl, k1, t1⟩
  have S1 := hide (S0.out.acc k1 t1)
  clear k1 t1 HL S0
  clear g0 gz0 g1 gz1 g2 gz2 g3 gz3 g4 gz4 g5 gz5 g6 gz6 g7 gz7 g8 gz8 g9 gz9
  have g0 := (S1.out.rb (r := ⟨0, 23, t, b, n, v, won, false, en⟩) rfl).g0
  have gz0 := (S1.out.rb (r := ⟨0, 23, t, b, n, v, won, false, en⟩) rfl).fz 0
  have g1 := (S1.out.rb (r := ⟨0, 23, t, b, n, v, won, false, en⟩) rfl).g1
  have gz1 := (S1.out.rb (r := ⟨0, 23, t, b, n, v, won, false, en⟩) rfl).fz 1
  have g2 := (S1.out.rb (r := ⟨0, 23, t, b, n, v, won, false, en⟩) rfl).g2
  have gz2 := (S1.out.rb (r := ⟨0, 23, t, b, n, v, won, false, en⟩) rfl).fz 2
  have g3 := (S1.out.rb (r := ⟨0, 23, t, b, n, v, won, false, en⟩) rfl).g3
  have gz3 := (S1.out.rb (r := ⟨0, 23, t, b, n, v, won, false, en⟩) rfl).fz 3
  have g4 := (S1.out.rb (r := ⟨0, 23, t, b, n, v, won, false, en⟩) rfl).g4
  have gz4 := (S1.out.rb (r := ⟨0, 23, t, b, n, v, won, false, en⟩) rfl).fz 4
  have g5 := (S1.out.rb (r := ⟨0, 23, t, b, n, v, won, false, en⟩) rfl).g5
  have gz5 := (S1.out.rb (r := ⟨0, 23, t, b, n, v, won, false, en⟩) rfl).fz 5
  have g6 := (S1.out.rb (r := ⟨0, 23, t, b, n, v, won, false, en⟩) rfl).g6
  have gz6 := (S1.out.rb (r := ⟨0, 23, t, b, n, v, won, false, en⟩) rfl).fz 6
  have g7 := (S1.out.rb (r := ⟨0, 23, t, b, n, v, won, false, en⟩) rfl).g7
  have gz7 := (S1.out.rb (r := ⟨0, 23, t, b, n, v, won, false, en⟩) rfl).fz 7
  have g8 := (S1.out.rb (r := ⟨0, 23, t, b, n, v, won, false, en⟩) rfl).g8
  have gz8 := (S1.out.rb (r := ⟨0, 23, t, b, n, v, won, false, en⟩) rfl).fz 8
  have g9 := (S1.out.rb (r := ⟨0, 23, t, b, n, v, won, false, en⟩) rfl).g9
  have gz9 := (S1.out.rb (r := ⟨0, 23, t, b, n, v, won, false, en⟩) rfl).fz 9
  go_wp2_with fail
  first | refine bodyPost_end (results_none rfl _ _ _) rfl ?_ | refine bodyPost_ret (results_none rfl _ _ _) rfl ?_
  exact ⟨rfl, (S1.out.set 2 _).fin rfl⟩

set_option maxHeartbeats 1000000 in
set_option maxRecDepth 10000 in
theorem rs_stk23b (kk : Int) (hkk : kk ≠ 0) (hn : 0 ≤ n ∧ n ≤ 4096) (hne : f ≠ d ∧ f ≠ p ∧ f ≠ q) (h : RDq w d p q C l s) (ho : RB w f d ⟨kk, 23, t, b, n, v, won, false, en⟩) :
    Calls Try.prog 40 #[.pointer (some ⟨f, 0, none⟩)] w fun e w' => e = .returned (.tuple #[]) ∧ RDq w' d p q C (wr C l 3 (n - 1)) (wrap64 (s + 1)) ∧ RB w' f d ⟨kk, 24, t, b, n, v, won, false, en⟩ ∧ Turned [p, q, f] w w' := by
  have S0 := hide (RS.of h ho hne)
  have hC := h.cap
  have hO := h.over
  have c2 := h.c2
  have g0 := (ho).g0
  have gz0 := (ho).fz 0
  have g1 := (ho).g1
  have gz1 := (ho).fz 1
  have g2 := (ho).g2
  have gz2 := (ho).fz 2
  have g3 := (ho).g3
  have gz3 := (ho).fz 3
  have g4 := (ho).g4
  have gz4 := (ho).fz 4
  have g5 := (ho).g5
  have gz5 := (ho).fz 5
  have g6 := (ho).g6
  have gz6 := (ho).fz 6
  have g7 := (ho).g7
  have gz7 := (ho).fz 7
  have g8 := (ho).g8
  have gz8 := (ho).fz 8
  have g9 := (ho).g9
  have gz9 := (ho).fz 9
  have HL := hide (rostore_any w d p q f C l s ⟨kk, 23, t, b, n, v, won, false, en⟩ 3 (n - 1) (by omega) hne h ho)
  generalize wr C l 3 (n - 1) = l2 at *
  clear ho h
  go_enter Try.func40, Try.ntmps40
  go_wp2_with fail
  refine HL.out.mono ?_
  rintro e w1 ⟨rfl, k1, t1⟩
  have S1 := hide (S0.out.acc k1 t1)
  clear k1 t1 HL S0
  clear g0 gz0 g1 gz1 g2 gz2 g3 gz3 g4 gz4 g5 gz5 g6 gz6 g7 gz7 g8 gz8 g9 gz9
  have g0 := (S1.out.rb (r := ⟨kk, 23, t, b, n, v, won, false, en⟩) rfl).g0
  have gz0 := (S1.out.rb (r := ⟨kk, 23, t, b, n, v, won, false, en⟩) rfl).fz 0
  have g1 := (S1.out.rb (r := ⟨kk, 23, t, b, n, v, won, false, en⟩) rfl).g1
  have gz1 := (S1.out.rb (r := ⟨kk, 23, t, b, n, v, won, false, en⟩) rfl).fz 1
  have g2 := (S1.out.rb (r := ⟨kk, 23, t, b, n, v, won, false, en⟩) rfl).g2
  have gz2 := (S1.out.rb (r := ⟨kk, 23, t, b, n, v, won, false, en⟩) rfl).fz 2
  have g3 := (S1.out.rb (r := ⟨kk, 23, t, b, n, v, won, false, en⟩) rfl).g3
  have gz3 := (S1.out.rb (r := ⟨kk, 23, t, b, n, v, won, false, en⟩) rfl).fz 3
  have g4 := (S1.out.rb (r := ⟨kk, 23, t, b, n, v, won, false, en⟩) rfl).g4
  have gz4 := (S1.out.rb (r := ⟨kk, 23, t, b, n, v, won, false, en⟩) rfl).fz 4
  have g5 := (S1.out.rb (r := ⟨kk, 23, t, b, n, v, won, false, en⟩) rfl).g5
  have gz5 := (S1.out.rb (r := ⟨kk, 23, t, b, n, v, won, false, en⟩) rfl).fz 5
  have g6 := (S1.out.rb (r := ⟨kk, 23, t, b, n, v, won, false, en⟩) rfl).g6
  have gz6 := (S1.out.rb (r := ⟨kk, 23, t, b, n, v, won, false, en⟩) rfl).fz 6
  have g7 := (S1.out.rb (r := ⟨kk, 23, t, b, n, v, won, false, en⟩) rfl).g7
  have gz7 := (S1.out.rb (r := ⟨kk, 23, t, b, n, v, won, false, en⟩) rfl).fz 7
  have g8 := (S1.out.rb (r := ⟨kk, 23, t, b, n, v, won, false, en⟩) rfl).g8
  have gz8 := (S1.out.rb (r := ⟨kk, 23, t, b, n, v, won, false, en⟩) rfl).fz 8
  have g9 := (S1.out.rb (r := ⟨kk, 23, t, b, n, v, won, false, en⟩) rfl).g9
  have gz9 := (S1.out.rb (r := ⟨kk, 23, t, b, n, v, won, false, en⟩) rfl).fz 9
  go_wp2_with fail
  first | refine bodyPost_end (results_none rfl _ _ _) rfl ?_ | refine bodyPost_ret (results_none rfl _ _ _) rfl ?_
  exact ⟨rfl, (S1.out.set 2 _).fin rfl⟩

set_option maxRecDepth 10000 in
theorem rs_pop5w (ht : -2305843009213693952 ≤ t ∧ t ≤ 2305843009213693952) (hne : f ≠ d ∧ f ≠ p ∧ f ≠ q) (h : RDq w d p q C l s) (ho : RB w f d ⟨1, 5, t, b, n, v, true, false, en⟩) :
    Calls Try.prog 42 #[.pointer (some ⟨f, 0, none⟩)] w fun e w' => e = .returned (.tuple #[]) ∧ RDq w' d p q C (wr C l 1 (t + 1)) (wrap64 (s + 1)) ∧ RB w' f d ⟨1, 20, t, b, n, v, true, true, 0⟩ ∧ Turned [p, q, f] w w' := by
  have S0 := hide (RS.of h ho hne)
  have hC := h.cap
  have hO := h.over
  have c2 := h.c2
  have g0 := (ho).g0
  have gz0 := (ho).fz 0
  have g1 := (ho).g1
  have gz1 := (ho).fz 1
  have g2 := (ho).g2
  have gz2 := (ho).fz 2
  have g3 := (ho).g3
  have gz3 := (ho).fz 3
  have g4 := (ho).g4
  have gz4 := (ho).fz 4
  have g5 := (ho).g5
  have gz5 := (ho).fz 5
  have g6 := (ho).g6
  have gz6 := (ho).fz 6
  have g7 := (ho).g7
  have gz7 := (ho).fz 7
  have g8 := (ho).g8
  have gz8 := (ho).fz 8
  have g9 := (ho).g9
  have gz9 := (ho).fz 9
  have HL := hide (rostore_any w d p q f C l s ⟨1, 5, t, b, n, v, true, false, en⟩ 1 (t + 1) (by omega) hne h ho)
  generalize wr C l 1 (t + 1) = l2 at *
  clear ho h
  go_enter Try.func42, Try.ntmps42
  go_wp2_with fail
  refine HL.out.mono ?_
  rintro e w1 ⟨rfl, k1, t1⟩
  have S1 := hide (S0.out.acc k1 t1)
  clear k1 t1 HL S0
  clear g0 gz0 g1 gz1 g2 gz2 g3 gz3 g4 gz4 g5 gz5 g6 gz6 g7 gz7 g8 gz8 g9 gz9
  have g0 := (S1.out.rb (r := ⟨1, 5, t, b, n, v, true, false, en⟩) rfl).g0
  have gz0 := (S1.out.rb (r := ⟨1, 5, t, b, n, v, true, false, en⟩) rfl).fz 0
  have g1 := (S1.out.rb (r := ⟨1, 5, t, b, n, v, true, false, en⟩) rfl).g1
  have gz1 := (S1.out.rb (r := ⟨1, 5, t, b, n, v, true, false, en⟩) rfl).fz 1
  have g2 := (S1.out.rb (r := ⟨1, 5, t, b, n, v, true, false, en⟩) rfl).g2
  have gz2 := (S1.out.rb (r := ⟨1, 5, t, b, n, v, true, false, en⟩) rfl).fz 2
  have g3 := (S1.out.rb (r := ⟨1, 5, t, b, n, v, true, false, en⟩) rfl).g3
  have gz3 := (S1.out.rb (r := ⟨1, 5, t, b, n, v, true, false, en⟩) rfl).fz 3
  have g4 := (S1.out.rb (r := ⟨1, 5, t, b, n, v, true, false, en⟩) rfl).g4
  have gz4 := (S1.out.rb (r := ⟨1, 5, t, b, n, v, true, false, en⟩) rfl).fz 4
  have g5 := (S1.out.rb (r := ⟨1, 5, t, b, n, v, true, false, en⟩) rfl).g5
  have gz5 := (S1.out.rb (r := ⟨1, 5, t, b, n, v, true, false, en⟩) rfl).fz 5
  have g6 := (S1.out.rb (r := ⟨1, 5, t, b, n, v, true, false, en⟩) rfl).g6
  have gz6 := (S1.out.rb (r := ⟨1, 5, t, b, n, v, true, false, en⟩) rfl).fz 6
  have g7 := (S1.out.rb (r := ⟨1, 5, t, b, n, v, true, false, en⟩) rfl).g7
  have gz7 := (S1.out.rb (r := ⟨1, 5, t, b, n, v, true, false, en⟩) rfl).fz 7
  have g8 := (S1.out.rb (r := ⟨1, 5, t, b, n, v, true, false, en⟩) rfl).g8
  have gz8 := (S1.out.rb (r := ⟨1, 5, t, b, n, v, true, false, en⟩) rfl).fz 8
  have g9 := (S1.out.rb (r := ⟨1, 5, t, b, n, v, true, false, en⟩) rfl).g9
  have gz9 := (S1.out.rb (r := ⟨1, 5, t, b, n, v, true, false, en⟩) rfl).fz 9
  go_wp2_with fail
  have S2 := hide (S1.out.set 2 (.int .i64 20))
  generalize (w1.setCell ⟨f, 2, none⟩ (.int .i64 20)) = w2 at S2 ⊢
  have HE := hide (rends_any w2 d f ⟨1, 20, t, b, n, v, true, false, en⟩ 0 (S2.out.rb rfl))
  refine HE.out.mono ?_
  rintro e w3 ⟨rfl, k2, t2⟩
  have S3 := hide (S2.out.endd k2 t2)
  clear k2 t2 HE S2
  go_wp2_with fail
  first | refine bodyPost_end (results_none rfl _ _ _) rfl ?_ | refine bodyPost_ret (results_none rfl _ _ _) rfl ?_
  exact ⟨rfl, S3.out.fin rfl⟩

set_option maxRecDepth 10000 in
theorem rs_pop5l (ht : -2305843009213693952 ≤ t ∧ t ≤ 2305843009213693952) (hne : f ≠ d ∧ f ≠ p ∧ f ≠ q) (h : RDq w d p q C l s) (ho : RB w f d ⟨1, 5, t, b, n, v, false, false, en⟩) :
    Calls Try.prog 42 #[.pointer (some ⟨f, 0, none⟩)] w fun e w' => e = .returned (.tuple #[]) ∧ RDq w' d p q C (wr C l 1 (t + 1)) (wrap64 (s + 1)) ∧ RB w' f d ⟨1, 20, t, b, n, v, false, false, en⟩ ∧ Turned [p, q, f] w w' := by
  have S0 := hide (RS.of h ho hne)
  have hC := h.cap
  have hO := h.over
  have c2 := h.c2
  have g0 := (ho).g0
  have gz0 := (ho).fz 0
  have g1 := (ho).g1
  have gz1 := (ho).fz 1
  have g2 := (ho).g2
  have gz2 := (ho).fz 2
  have g3 := (ho).g3
  have gz3 := (ho).fz 3
  have g4 := (ho).g4
  have gz4 := (ho).fz 4
  have g5 := (ho).g5
  have gz5 := (ho).fz 5
  have g6 := (ho).g6
  have gz6 := (ho).fz 6
  have g7 := (ho).g7
  have gz7 := (ho).fz 7
  have g8 := (ho).g8
  have gz8 := (ho).fz 8
  have g9 := (ho).g9
  have gz9 := (ho).fz 9
  have HL := hide (rostore_any w d p q f C l s ⟨1, 5, t, b, n, v, false, false, en⟩ 1 (t + 1) (by omega) hne h ho)
  generalize wr C l 1 (t + 1) = l2 at *
  clear ho h
  go_enter Try.func42, Try.ntmps42
  go_wp2_with fail
  refine HL.out.mono ?_
  rintro e w1 ⟨rfl, k1, t1⟩
  have S1 := hide (S0.out.acc k1 t1)
  clear k1 t1 HL S0
  clear g0 gz0 g1 gz1 g2 gz2 g3 gz3 g4 gz4 g5 gz5 g6 gz6 g7 gz7 g8 gz8 g9 gz9
  have g0 := (S1.out.rb (r := ⟨1, 5, t, b, n, v, false, false, en⟩) rfl).g0
  have gz0 := (S1.out.rb (r := ⟨1, 5, t, b, n, v, false, false, en⟩) rfl).fz 0
  have g1 := (S1.out.rb (r := ⟨1, 5, t, b, n, v, false, false, en⟩) rfl).g1
  have gz1 := (S1.out.rb (r := ⟨1, 5, t, b, n, v, false, false, en⟩) rfl).fz 1
  have g2 := (S1.out.rb (r := ⟨1, 5, t, b, n, v, false, false, en⟩) rfl).g2
  have gz2 := (S1.out.rb (r := ⟨1, 5, t, b, n, v, false, false, en⟩) rfl).fz 2
  have g3 := (S1.out.rb (r := ⟨1, 5, t, b, n, v, false, false, en⟩) rfl).g3
  have gz3 := (S1.out.rb (r := ⟨1, 5, t, b, n, v, false, false, en⟩) rfl).fz 3
  have g4 := (S1.out.rb (r := ⟨1, 5, t, b, n, v, false, false, en⟩) rfl).g4
  have gz4 := (S1.out.rb (r := ⟨1, 5, t, b, n, v, false, false, en⟩) rfl).fz 4
  have g5 := (S1.out.rb (r := ⟨1, 5, t, b, n, v, false, false, en⟩) rfl).g5
  have gz5 := (S1.out.rb (r := ⟨1, 5, t, b, n, v, false, false, en⟩) rfl).fz 5
  have g6 := (S1.out.rb (r := ⟨1, 5, t, b, n, v, false, false, en⟩) rfl).g6
  have gz6 := (S1.out.rb (r := ⟨1, 5, t, b, n, v, false, false, en⟩) rfl).fz 6
  have g7 := (S1.out.rb (r := ⟨1, 5, t, b, n, v, false, false, en⟩) rfl).g7
  have gz7 := (S1.out.rb (r := ⟨1, 5, t, b, n, v, false, false, en⟩) rfl).fz 7
  have g8 := (S1.out.rb (r := ⟨1, 5, t, b, n, v, false, false, en⟩) rfl).g8
  have gz8 := (S1.out.rb (r := ⟨1, 5, t, b, n, v, false, false, en⟩) rfl).fz 8
  have g9 := (S1.out.rb (r := ⟨1, 5, t, b, n, v, false, false, en⟩) rfl).g9
  have gz9 := (S1.out.rb (r := ⟨1, 5, t, b, n, v, false, false, en⟩) rfl).fz 9
  go_wp2_with fail
  first | refine bodyPost_end (results_none rfl _ _ _) rfl ?_ | refine bodyPost_ret (results_none rfl _ _ _) rfl ?_
  exact ⟨rfl, (S1.out.set 2 _).fin rfl⟩

set_option maxHeartbeats 1000000 in
set_option maxRecDepth 10000 in
theorem rs_push1 (hb : -2305843009213693952 ≤ b ∧ b ≤ 2305843009213693952) (hy : -2305843009213693952 ≤ rd C l 0 ∧ rd C l 0 ≤ 2305843009213693952) (hne : f ≠ d ∧ f ≠ p ∧ f ≠ q) (h : RDq w d p q C l s) (ho : RB w f d ⟨0, 1, t, b, n, v, won, false, en⟩) :
    Calls Try.prog 41 #[.pointer (some ⟨f, 0, none⟩)] w fun e w' => e = .returned (.tuple #[]) ∧ RDq w' d p q C l (wrap64 (s + 1)) ∧ RB w' f d ⟨0, (if (C.cap : Int) ≤ b - rd C l 0 then 20 else 2), (rd C l 0), b, n, v, won, false, en⟩ ∧ Turned [p, q, f] w w' := by
  have S0 := hide (RS.of h ho hne)
  have hC := h.cap
  have hO := h.over
  have c2 := h.c2
  have g0 := (ho).g0
  have gz0 := (ho).fz 0
  have g1 := (ho).g1
  have gz1 := (ho).fz 1
  have g2 := (ho).g2
  have gz2 := (ho).fz 2
  have g3 := (ho).g3
  have gz3 := (ho).fz 3
  have g4 := (ho).g4
  have gz4 := (ho).fz 4
  have g5 := (ho).g5
  have gz5 := (ho).fz 5
  have g6 := (ho).g6
  have gz6 := (ho).fz 6
  have g7 := (ho).g7
  have gz7 := (ho).fz 7
  have g8 := (ho).g8
  have gz8 := (ho).fz 8
  have g9 := (ho).g9
  have gz9 := (ho).fz 9
  have HL := hide (roload_any w d p q f C l s ⟨0, 1, t, b, n, v, won, false, en⟩ 0 (by omega) hne h ho)
  generalize rd C l 0 = y at *
  clear ho h
  go_enter Try.func41, Try.ntmps41
  go_wp2_with fail
  refine HL.out.mono ?_
  rintro e w1 ⟨rfl, k1, t1⟩
  have S1 := hide (S0.out.acc k1 t1)
  clear k1 t1 HL S0
  clear g0 gz0 g1 gz1 g2 gz2 g3 gz3 g4 gz4 g5 gz5 g6 gz6 g7 gz7 g8 gz8 g9 gz9
  have g0 := (S1.out.rb (r := ⟨0, 1, t, b, n, v, won, false, en⟩) rfl).g0
  have gz0 := (S1.out.rb (r := ⟨0, 1, t, b, n, v, won, false, en⟩) rfl).fz 0
  have g1 := (S1.out.rb (r := ⟨0, 1, t, b, n, v, won, false, en⟩) rfl).g1
  have gz1 := (S1.out.rb (r := ⟨0, 1, t, b, n, v, won, false, en⟩) rfl).fz 1
  have g2 := (S1.out.rb (r := ⟨0, 1, t, b, n, v, won, false, en⟩) rfl).g2
  have gz2 := (S1.out.rb (r := ⟨0, 1, t, b, n, v, won, false, en⟩) rfl).fz 2
  have g3 := (S1.out.rb (r := ⟨0, 1, t, b, n, v, won, false, en⟩) rfl).g3
  have gz3 := (S1.out.rb (r := ⟨0, 1, t, b, n, v, won, false, en⟩) rfl).fz 3
  have g4 := (S1.out.rb (r := ⟨0, 1, t, b, n, v, won, false, en⟩) rfl).g4
  have gz4 := (S1.out.rb (r := ⟨0, 1, t, b, n, v, won, false, en⟩) rfl).fz 4
  have g5 := (S1.out.rb (r := ⟨0, 1, t, b, n, v, won, false, en⟩) rfl).g5
  have gz5 := (S1.out.rb (r := ⟨0, 1, t, b, n, v, won, false, en⟩) rfl).fz 5
  have g6 := (S1.out.rb (r := ⟨0, 1, t, b, n, v, won, false, en⟩) rfl).g6
  have gz6 := (S1.out.rb (r := ⟨0, 1, t, b, n, v, won, false, en⟩) rfl).fz 6
  have g7 := (S1.out.rb (r := ⟨0, 1, t, b, n, v, won, false, en⟩) rfl).g7
  have gz7 := (S1.out.rb (r := ⟨0, 1, t, b, n, v, won, false, en⟩) rfl).fz 7
  have g8 := (S1.out.rb (r := ⟨0, 1, t, b, n, v, won, false, en⟩) rfl).g8
  have gz8 := (S1.out.rb (r := ⟨0, 1, t, b, n, v, won, false, en⟩) rfl).fz 8
  have g9 := (S1.out.rb (r := ⟨0, 1, t, b, n, v, won, false, en⟩) rfl).g9
  have gz9 := (S1.out.rb (r := ⟨0, 1, t, b, n, v, won, false, en⟩) rfl).fz 9
  go_wp2_with fail
  have S2 := hide ((S1.out.set 3 (.int .i64 y)).set 2 (.int .i64 2))
  generalize ((w1.setCell ⟨f, 3, none⟩ (.int .i64 y)).setCell ⟨f, 2, none⟩ (.int .i64 2)) = w2 at S2 ⊢
  clear g0 gz0 g1 gz1 g2 gz2 g3 gz3 g4 gz4 g5 gz5 g6 gz6 g7 gz7 g8 gz8 g9 gz9
  clear S1
  have g0 := (S2.out.rb (r := ⟨0, 2, y, b, n, v, won, false, en⟩) rfl).g0
  have gz0 := (S2.out.rb (r := ⟨0, 2, y, b, n, v, won, false, en⟩) rfl).fz 0
  have g1 := (S2.out.rb (r := ⟨0, 2, y, b, n, v, won, false, en⟩) rfl).g1
  have gz1 := (S2.out.rb (r := ⟨0, 2, y, b, n, v, won, false, en⟩) rfl).fz 1
  have g2 := (S2.out.rb (r := ⟨0, 2, y, b, n, v, won, false, en⟩) rfl).g2
  have gz2 := (S2.out.rb (r := ⟨0, 2, y, b, n, v, won, false, en⟩) rfl).fz 2
  have g3 := (S2.out.rb (r := ⟨0, 2, y, b, n, v, won, false, en⟩) rfl).g3
  have gz3 := (S2.out.rb (r := ⟨0, 2, y, b, n, v, won, false, en⟩) rfl).fz 3
  have g4 := (S2.out.rb (r := ⟨0, 2, y, b, n, v, won, false, en⟩) rfl).g4
  have gz4 := (S2.out.rb (r := ⟨0, 2, y, b, n, v, won, false, en⟩) rfl).fz 4
  have g5 := (S2.out.rb (r := ⟨0, 2, y, b, n, v, won, false, en⟩) rfl).g5
  have gz5 := (S2.out.rb (r := ⟨0, 2, y, b, n, v, won, false, en⟩) rfl).fz 5
  have g6 := (S2.out.rb (r := ⟨0, 2, y, b, n, v, won, false, en⟩) rfl).g6
  have gz6 := (S2.out.rb (r := ⟨0, 2, y, b, n, v, won, false, en⟩) rfl).fz 6
  have g7 := (S2.out.rb (r := ⟨0, 2, y, b, n, v, won, false, en⟩) rfl).g7
  have gz7 := (S2.out.rb (r := ⟨0, 2, y, b, n, v, won, false, en⟩) rfl).fz 7
  have g8 := (S2.out.rb (r := ⟨0, 2, y, b, n, v, won, false, en⟩) rfl).g8
  have gz8 := (S2.out.rb (r := ⟨0, 2, y, b, n, v, won, false, en⟩) rfl).fz 8
  have g9 := (S2.out.rb (r := ⟨0, 2, y, b, n, v, won, false, en⟩) rfl).g9
  have gz9 := (S2.out.rb (r := ⟨0, 2, y, b, n, v, won, false, en⟩) rfl).fz 9
  have d2 := S2.out.dq.c2
  have hw := w64 (b - y) (by omega)
  by_cases hz : (C.cap : Int) ≤ b - y
  · go_quiet (fail)
    go_wp2_with fail
    first | refine bodyPost_end (results_none rfl _ _ _) rfl ?_ | refine bodyPost_ret (results_none rfl _ _ _) rfl ?_
    exact ⟨rfl, ((S2.out.drewN _).set 2 _).fin rfl⟩
  · go_quiet (fail)
    go_wp2_with fail
    first | refine bodyPost_end (results_none rfl _ _ _) rfl ?_ | refine bodyPost_ret (results_none rfl _ _ _) rfl ?_
    exact ⟨rfl, (S2.out.drewN _).fin rfl⟩

set_option maxHeartbeats 1000000 in
set_option maxRecDepth 10000 in
theorem rs_pop2 (hne : f ≠ d ∧ f ≠ p ∧ f ≠ q) (h : RDq w d p q C l s) (ho : RB w f d ⟨1, 2, t, b, n, v, won, false, en⟩) :
    Calls Try.prog 42 #[.pointer (some ⟨f, 0, none⟩)] w fun e w' => e = .returned (.tuple #[]) ∧ RDq w' d p q C l (wrap64 (s + 1)) ∧ RB w' f d ⟨1, (if b < rd C l 0 then 6 else 3), (rd C l 0), b, n, v, won, false, en⟩ ∧ Turned [p, q, f] w w' := by
  have S0 := hide (RS.of h ho hne)
  have hC := h.cap
  have hO := h.over
  have c2 := h.c2
  have g0 := (ho).g0
  have gz0 := (ho).fz 0
  have g1 := (ho).g1
  have gz1 := (ho).fz 1
  have g2 := (ho).g2
  have gz2 := (ho).fz 2
  have g3 := (ho).g3
  have gz3 := (ho).fz 3
  have g4 := (ho).g4
  have gz4 := (ho).fz 4
  have g5 := (ho).g5
  have gz5 := (ho).fz 5
  have g6 := (ho).g6
  have gz6 := (ho).fz 6
  have g7 := (ho).g7
  have gz7 := (ho).fz 7
  have g8 := (ho).g8
  have gz8 := (ho).fz 8
  have g9 := (ho).g9
  have gz9 := (ho).fz 9
  have HL := hide (roload_any w d p q f C l s ⟨1, 2, t, b, n, v, won, false, en⟩ 0 (by omega) hne h ho)
  generalize rd C l 0 = y at *
  clear ho h
  go_enter Try.func42, Try.ntmps42
  go_wp2_with fail
  refine HL.out.mono ?_
  rintro e w1 ⟨rfl, k1, t1⟩
  have S1 := hide (S0.out.acc k1 t1)
  clear k1 t1 HL S0
  clear g0 gz0 g1 gz1 g2 gz2 g3 gz3 g4 gz4 g5 gz5 g6 gz6 g7 gz7 g8 gz8 g9 gz9
  have g0 := (S1.out.rb (r := ⟨1, 2, t, b, n, v, won, false, en⟩) rfl).g0
  have gz0 := (S1.out.rb (r := ⟨1, 2, t, b, n, v, won, false, en⟩) rfl).fz 0
  have g1 := (S1.out.rb (r := ⟨1, 2, t, b, n, v, won, false, en⟩) rfl).g1
  have gz1 := (S1.out.rb (r := ⟨1, 2, t, b, n, v, won, false, en⟩) rfl).fz 1
  have g2 := (S1.out.rb (r := ⟨1, 2, t, b, n, v, won, false, en⟩) rfl).g2
  have gz2 := (S1.out.rb (r := ⟨1, 2, t, b, n, v, won, false, en⟩) rfl).fz 2
  have g3 := (S1.out.rb (r := ⟨1, 2, t, b, n, v, won, false, en⟩) rfl).g3
  have gz3 := (S1.out.rb (r := ⟨1, 2, t, b, n, v, won, false, en⟩) rfl).fz 3
  have g4 := (S1.out.rb (r := ⟨1, 2, t, b, n, v, won, false, en⟩) rfl).g4
  have gz4 := (S1.out.rb (r := ⟨1, 2, t, b, n, v, won, false, en⟩) rfl).fz 4
  have g5 := (S1.out.rb (r := ⟨1, 2, t, b, n, v, won, false, en⟩) rfl).g5
  have gz5 := (S1.out.rb (r := ⟨1, 2, t, b, n, v, won, false, en⟩) rfl).fz 5
  have g6 := (S1.out.rb (r := ⟨1, 2, t, b, n, v, won, false, en⟩) rfl).g6
  have gz6 := (S1.out.rb (r := ⟨1, 2, t, b, n, v, won, false, en⟩) rfl).fz 6
  have g7 := (S1.out.rb (r := ⟨1, 2, t, b, n, v, won, false, en⟩) rfl).g7
  have gz7 := (S1.out.rb (r := ⟨1, 2, t, b, n, v, won, false, en⟩) rfl).fz 7
  have g8 := (S1.out.rb (r := ⟨1, 2, t, b, n, v, won, false, en⟩) rfl).g8
  have gz8 := (S1.out.rb (r := ⟨1, 2, t, b, n, v, won, false, en⟩) rfl).fz 8
  have g9 := (S1.out.rb (r := ⟨1, 2, t, b, n, v, won, false, en⟩) rfl).g9
  have gz9 := (S1.out.rb (r := ⟨1, 2, t, b, n, v, won, false, en⟩) rfl).fz 9
  go_wp2_with fail
  have S2 := hide ((S1.out.set 3 (.int .i64 y)).set 2 (.int .i64 3))
  generalize ((w1.setCell ⟨f, 3, none⟩ (.int .i64 y)).setCell ⟨f, 2, none⟩ (.int .i64 3)) = w2 at S2 ⊢
  clear g0 gz0 g1 gz1 g2 gz2 g3 gz3 g4 gz4 g5 gz5 g6 gz6 g7 gz7 g8 gz8 g9 gz9
  clear S1
  have g0 := (S2.out.rb (r := ⟨1, 3, y, b, n, v, won, false, en⟩) rfl).g0
  have gz0 := (S2.out.rb (r := ⟨1, 3, y, b, n, v, won, false, en⟩) rfl).fz 0
  have g1 := (S2.out.rb (r := ⟨1, 3, y, b, n, v, won, false, en⟩) rfl).g1
  have gz1 := (S2.out.rb (r := ⟨1, 3, y, b, n, v, won, false, en⟩) rfl).fz 1
  have g2 := (S2.out.rb (r := ⟨1, 3, y, b, n, v, won, false, en⟩) rfl).g2
  have gz2 := (S2.out.rb (r := ⟨1, 3, y, b, n, v, won, false, en⟩) rfl).fz 2
  have g3 := (S2.out.rb (r := ⟨1, 3, y, b, n, v, won, false, en⟩) rfl).g3
  have gz3 := (S2.out.rb (r := ⟨1, 3, y, b, n, v, won, false, en⟩) rfl).fz 3
  have g4 := (S2.out.rb (r := ⟨1, 3, y, b, n, v, won, false, en⟩) rfl).g4
  have gz4 := (S2.out.rb (r := ⟨1, 3, y, b, n, v, won, false, en⟩) rfl).fz 4
  have g5 := (S2.out.rb (r := ⟨1, 3, y, b, n, v, won, false, en⟩) rfl).g5
  have gz5 := (S2.out.rb (r := ⟨1, 3, y, b, n, v, won, false, en⟩) rfl).fz 5
  have g6 := (S2.out.rb (r := ⟨1, 3, y, b, n, v, won, false, en⟩) rfl).g6
  have gz6 := (S2.out.rb (r := ⟨1, 3, y, b, n, v, won, false, en⟩) rfl).fz 6
  have g7 := (S2.out.rb (r := ⟨1, 3, y, b, n, v, won, false, en⟩) rfl).g7
  have gz7 := (S2.out.rb (r := ⟨1, 3, y, b, n, v, won, false, en⟩) rfl).fz 7
  have g8 := (S2.out.rb (r := ⟨1, 3, y, b, n, v, won, false, en⟩) rfl).g8
  have gz8 := (S2.out.rb (r := ⟨1, 3, y, b, n, v, won, false, en⟩) rfl).fz 8
  have g9 := (S2.out.rb (r := ⟨1, 3, y, b, n, v, won, false, en⟩) rfl).g9
  have gz9 := (S2.out.rb (r := ⟨1, 3, y, b, n, v, won, false, en⟩) rfl).fz 9
  have d2 := S2.out.dq.c2
  by_cases hz : b < y
  · go_quiet (fail)
    go_wp2_with fail
    first | refine bodyPost_end (results_none rfl _ _ _) rfl ?_ | refine bodyPost_ret (results_none rfl _ _ _) rfl ?_
    exact ⟨rfl, ((S2.out.drewN _).set 2 _).fin rfl⟩
  · go_quiet (fail)
    go_wp2_with fail
    first | refine bodyPost_end (results_none rfl _ _ _) rfl ?_ | refine bodyPost_ret (results_none rfl _ _ _) rfl ?_
    exact ⟨rfl, (S2.out.drewN _).fin rfl⟩

set_option maxHeartbeats 1000000 in
set_option maxRecDepth 10000 in
theorem rs_steal1 (hne : f ≠ d ∧ f ≠ p ∧ f ≠ q) (h : RDq w d p q C l s) (ho : RB w f d ⟨2, 1, t, b, n, v, won, false, en⟩) :
    Calls Try.prog 43 #[.pointer (some ⟨f, 0, none⟩)] w fun e w' => e = .returned (.tuple #[]) ∧ RDq w' d p q C l (wrap64 (s + 1)) ∧ RB w' f d ⟨2, (if rd C l 1 ≤ t then 20 else 2), t, (rd C l 1), n, v, won, false, en⟩ ∧ Turned [p, q, f] w w' := by
  have S0 := hide (RS.of h ho hne)
  have hC := h.cap
  have hO := h.over
  have c2 := h.c2
  have g0 := (ho).g0
  have gz0 := (ho).fz 0
  have g1 := (ho).g1
  have gz1 := (ho).fz 1
  have g2 := (ho).g2
  have gz2 := (ho).fz 2
  have g3 := (ho).g3
  have gz3 := (ho).fz 3
  have g4 := (ho).g4
  have gz4 := (ho).fz 4
  have g5 := (ho).g5
  have gz5 := (ho).fz 5
  have g6 := (ho).g6
  have gz6 := (ho).fz 6
  have g7 := (ho).g7
  have gz7 := (ho).fz 7
  have g8 := (ho).g8
  have gz8 := (ho).fz 8
  have g9 := (ho).g9
  have gz9 := (ho).fz 9
  have HL := hide (roload_any w d p q f C l s ⟨2, 1, t, b, n, v, won, false, en⟩ 1 (by omega) hne h ho)
  generalize rd C l 1 = y at *
  clear ho h
  go_enter Try.func43, Try.ntmps43
  go_wp2_with fail
  refine HL.out.mono ?_
  rintro e w1 ⟨rfl, k1, t1⟩
  have S1 := hide (S0.out.acc k1 t1)
  clear k1 t1 HL S0
  clear g0 gz0 g1 gz1 g2 gz2 g3 gz3 g4 gz4 g5 gz5 g6 gz6 g7 gz7 g8 gz8 g9 gz9
  have g0 := (S1.out.rb (r := ⟨2, 1, t, b, n, v, won, false, en⟩) rfl).g0
  have gz0 := (S1.out.rb (r := ⟨2, 1, t, b, n, v, won, false, en⟩) rfl).fz 0
  have g1 := (S1.out.rb (r := ⟨2, 1, t, b, n, v, won, false, en⟩) rfl).g1
  have gz1 := (S1.out.rb (r := ⟨2, 1, t, b, n, v, won, false, en⟩) rfl).fz 1
  have g2 := (S1.out.rb (r := ⟨2, 1, t, b, n, v, won, false, en⟩) rfl).g2
  have gz2 := (S1.out.rb (r := ⟨2, 1, t, b, n, v, won, false, en⟩) rfl).fz 2
  have g3 := (S1.out.rb (r := ⟨2, 1, t, b, n, v, won, false, en⟩) rfl).g3
  have gz3 := (S1.out.rb (r := ⟨2, 1, t, b, n, v, won, false, en⟩) rfl).fz 3
  have g4 := (S1.out.rb (r := ⟨2, 1, t, b, n, v, won, false, en⟩) rfl).g4
  have gz4 := (S1.out.rb (r := ⟨2, 1, t, b, n, v, won, false, en⟩) rfl).fz 4
  have g5 := (S1.out.rb (r := ⟨2, 1, t, b, n, v, won, false, en⟩) rfl).g5
  have gz5 := (S1.out.rb (r := ⟨2, 1, t, b, n, v, won, false, en⟩) rfl).fz 5
  have g6 := (S1.out.rb (r := ⟨2, 1, t, b, n, v, won, false, en⟩) rfl).g6
  have gz6 := (S1.out.rb (r := ⟨2, 1, t, b, n, v, won, false, en⟩) rfl).fz 6
  have g7 := (S1.out.rb (r := ⟨2, 1, t, b, n, v, won, false, en⟩) rfl).g7
  have gz7 := (S1.out.rb (r := ⟨2, 1, t, b, n, v, won, false, en⟩) rfl).fz 7
  have g8 := (S1.out.rb (r := ⟨2, 1, t, b, n, v, won, false, en⟩) rfl).g8
  have gz8 := (S1.out.rb (r := ⟨2, 1, t, b, n, v, won, false, en⟩) rfl).fz 8
  have g9 := (S1.out.rb (r := ⟨2, 1, t, b, n, v, won, false, en⟩) rfl).g9
  have gz9 := (S1.out.rb (r := ⟨2, 1, t, b, n, v, won, false, en⟩) rfl).fz 9
  go_wp2_with fail
  have S2 := hide ((S1.out.set 4 (.int .i64 y)).set 2 (.int .i64 2))
  generalize ((w1.setCell ⟨f, 4, none⟩ (.int .i64 y)).setCell ⟨f, 2, none⟩ (.int .i64 2)) = w2 at S2 ⊢
  clear g0 gz0 g1 gz1 g2 gz2 g3 gz3 g4 gz4 g5 gz5 g6 gz6 g7 gz7 g8 gz8 g9 gz9
  clear S1
  have g0 := (S2.out.rb (r := ⟨2, 2, t, y, n, v, won, false, en⟩) rfl).g0
  have gz0 := (S2.out.rb (r := ⟨2, 2, t, y, n, v, won, false, en⟩) rfl).fz 0
  have g1 := (S2.out.rb (r := ⟨2, 2, t, y, n, v, won, false, en⟩) rfl).g1
  have gz1 := (S2.out.rb (r := ⟨2, 2, t, y, n, v, won, false, en⟩) rfl).fz 1
  have g2 := (S2.out.rb (r := ⟨2, 2, t, y, n, v, won, false, en⟩) rfl).g2
  have gz2 := (S2.out.rb (r := ⟨2, 2, t, y, n, v, won, false, en⟩) rfl).fz 2
  have g3 := (S2.out.rb (r := ⟨2, 2, t, y, n, v, won, false, en⟩) rfl).g3
  have gz3 := (S2.out.rb (r := ⟨2, 2, t, y, n, v, won, false, en⟩) rfl).fz 3
  have g4 := (S2.out.rb (r := ⟨2, 2, t, y, n, v, won, false, en⟩) rfl).g4
  have gz4 := (S2.out.rb (r := ⟨2, 2, t, y, n, v, won, false, en⟩) rfl).fz 4
  have g5 := (S2.out.rb (r := ⟨2, 2, t, y, n, v, won, false, en⟩) rfl).g5
  have gz5 := (S2.out.rb (r := ⟨2, 2, t, y, n, v, won, false, en⟩) rfl).fz 5
  have g6 := (S2.out.rb (r := ⟨2, 2, t, y, n, v, won, false, en⟩) rfl).g6
  have gz6 := (S2.out.rb (r := ⟨2, 2, t, y, n, v, won, false, en⟩) rfl).fz 6
  have g7 := (S2.out.rb (r := ⟨2, 2, t, y, n, v, won, false, en⟩) rfl).g7
  have gz7 := (S2.out.rb (r := ⟨2, 2, t, y, n, v, won, false, en⟩) rfl).fz 7
  have g8 := (S2.out.rb (r := ⟨2, 2, t, y, n, v, won, false, en⟩) rfl).g8
  have gz8 := (S2.out.rb (r := ⟨2, 2, t, y, n, v, won, false, en⟩) rfl).fz 8
  have g9 := (S2.out.rb (r := ⟨2, 2, t, y, n, v, won, false, en⟩) rfl).g9
  have gz9 := (S2.out.rb (r := ⟨2, 2, t, y, n, v, won, false, en⟩) rfl).fz 9
  have d2 := S2.out.dq.c2
  by_cases hz : y ≤ t
  · go_quiet (fail)
    go_wp2_with fail
    first | refine bodyPost_end (results_none rfl _ _ _) rfl ?_ | refine bodyPost_ret (results_none rfl _ _ _) rfl ?_
    exact ⟨rfl, ((S2.out.drewN _).set 2 _).fin rfl⟩
  · go_quiet (fail)
    go_wp2_with fail
    first | refine bodyPost_end (results_none rfl _ _ _) rfl ?_ | refine bodyPost_ret (results_none rfl _ _ _) rfl ?_
    exact ⟨rfl, (S2.out.drewN _).fin rfl⟩

set_option maxHeartbeats 1000000 in
set_option maxRecDepth 10000 in
theorem rs_push2 (hne : f ≠ d ∧ f ≠ p ∧ f ≠ q) (h : RDq w d p q C l s) (ho : RB w f d ⟨0, 2, t, b, n, v, won, false, en⟩) :
    Calls Try.prog 41 #[.pointer (some ⟨f, 0, none⟩)] w fun e w' => e = .returned (.tuple #[]) ∧ RDq w' d p q C (wr C l (slotOf C b) v) (wrap64 (s + 1)) ∧ RB w' f d ⟨0, 3, t, b, n, v, won, false, en⟩ ∧ Turned [p, q, f] w w' := by
  have S0 := hide (RS.of h ho hne)
  have hC := h.cap
  have hO := h.over
  have c2 := h.c2
  have g0 := (ho).g0
  have gz0 := (ho).fz 0
  have g1 := (ho).g1
  have gz1 := (ho).fz 1
  have g2 := (ho).g2
  have gz2 := (ho).fz 2
  have g3 := (ho).g3
  have gz3 := (ho).fz 3
  have g4 := (ho).g4
  have gz4 := (ho).fz 4
  have g5 := (ho).g5
  have gz5 := (ho).fz 5
  have g6 := (ho).g6
  have gz6 := (ho).fz 6
  have g7 := (ho).g7
  have gz7 := (ho).fz 7
  have g8 := (ho).g8
  have gz8 := (ho).fz 8
  have g9 := (ho).g9
  have gz9 := (ho).fz 9
  have hsl := slotOf_lt C b hC.1
  have HS := hide (rslot_any w.drew d p q f C l s ⟨0, 2, t, b, n, v, won, false, en⟩ b h.drew (ho.turned (Turned.refl [] w).drew (by simp)))
  have HL := hide (rostore_any w.drew d p q f C l s ⟨0, 2, t, b, n, v, won, false, en⟩ (slotOf C b) v (by omega) hne h.drew (ho.turned (Turned.refl [] w).drew (by simp)))
  generalize wr C l (slotOf C b) v = l2 at *
  clear hsl
  generalize slotOf C b = k at *
  clear ho h
  go_enter Try.func41, Try.ntmps41
  go_wp2_with fail
  go_region_held3 (fun w' => w'.cell? ⟨f, 4, none⟩ = some (.int .i64 b) ∧ w'.cell? ⟨f, 6, none⟩ = some (.int .i64 v)) (go_keep)
    (first
      | (go_at_call 54; refine HS.out.mono ?_; rintro e w0 ⟨rfl, rfl⟩; have k1 : w.drew.cell? ⟨f, 4, none⟩ = some (.int .i64 b) := g4; have k2 : w.drew.cell? ⟨f, 6, none⟩ = some (.int .i64 v) := g6)
      | (go_at_call 67; refine HL.out.mono ?_; rintro e w1 ⟨rfl, m1, t1⟩; have S1 := hide (S0.out.drew.acc m1 t1); have k3 := (S1.out.rb (r := ⟨0, 2, t, b, n, v, won, false, en⟩) rfl).g4; have k4 := (S1.out.rb (r := ⟨0, 2, t, b, n, v, won, false, en⟩) rfl).g6; clear m1 t1))
  clear HL HS S0
  clear g0 gz0 g1 gz1 g2 gz2 g3 gz3 g4 gz4 g5 gz5 g6 gz6 g7 gz7 g8 gz8 g9 gz9
  have g0 := (S1.out.rb (r := ⟨0, 2, t, b, n, v, won, false, en⟩) rfl).g0
  have gz0 := (S1.out.rb (r := ⟨0, 2, t, b, n, v, won, false, en⟩) rfl).fz 0
  have g1 := (S1.out.rb (r := ⟨0, 2, t, b, n, v, won, false, en⟩) rfl).g1
  have gz1 := (S1.out.rb (r := ⟨0, 2, t, b, n, v, won, false, en⟩) rfl).fz 1
  have g2 := (S1.out.rb (r := ⟨0, 2, t, b, n, v, won, false, en⟩) rfl).g2
  have gz2 := (S1.out.rb (r := ⟨0, 2, t, b, n, v, won, false, en⟩) rfl).fz 2
  have g3 := (S1.out.rb (r := ⟨0, 2, t, b, n, v, won, false, en⟩) rfl).g3
  have gz3 := (S1.out.rb (r := ⟨0, 2, t, b, n, v, won, false, en⟩) rfl).fz 3
  have g4 := (S1.out.rb (r := ⟨0, 2, t, b, n, v, won, false, en⟩) rfl).g4
  have gz4 := (S1.out.rb (r := ⟨0, 2, t, b, n, v, won, false, en⟩) rfl).fz 4
  have g5 := (S1.out.rb (r := ⟨0, 2, t, b, n, v, won, false, en⟩) rfl).g5
  have gz5 := (S1.out.rb (r := ⟨0, 2, t, b, n, v, won, false, en⟩) rfl).fz 5
  have g6 := (S1.out.rb (r := ⟨0, 2, t, b, n, v, won, false, en⟩) rfl).g6
  have gz6 := (S1.out.rb (r := ⟨0, 2, t, b, n, v, won, false, en⟩) rfl).fz 6
  have g7 := (S1.out.rb (r := ⟨0, 2, t, b, n, v, won, false, en⟩) rfl).g7
  have gz7 := (S1.out.rb (r := ⟨0, 2, t, b, n, v, won, false, en⟩) rfl).fz 7
  have g8 := (S1.out.rb (r := ⟨0, 2, t, b, n, v, won, false, en⟩) rfl).g8
  have gz8 := (S1.out.rb (r := ⟨0, 2, t, b, n, v, won, false, en⟩) rfl).fz 8
  have g9 := (S1.out.rb (r := ⟨0, 2, t, b, n, v, won, false, en⟩) rfl).g9
  have gz9 := (S1.out.rb (r := ⟨0, 2, t, b, n, v, won, false, en⟩) rfl).fz 9
  go_wp2_with fail
  first | refine bodyPost_end (results_none rfl _ _ _) rfl ?_ | refine bodyPost_ret (results_none rfl _ _ _) rfl ?_
  exact ⟨rfl, (S1.out.set 2 _).fin rfl⟩

set_option maxHeartbeats 1000000 in
set_option maxRecDepth 10000 in
theorem rs_steal2 (hne : f ≠ d ∧ f ≠ p ∧ f ≠ q) (h : RDq w d p q C l s) (ho : RB w f d ⟨2, 2, t, b, n, v, won, false, en⟩) :
    Calls Try.prog 43 #[.pointer (some ⟨f, 0, none⟩)] w fun e w' => e = .returned (.tuple #[]) ∧ RDq w' d p q C l (wrap64 (s + 1)) ∧ RB w' f d ⟨2, 3, t, b, n, (rd C l (slotOf C t)), won, false, en⟩ ∧ Turned [p, q, f] w w' := by
  have S0 := hide (RS.of h ho hne)
  have hC := h.cap
  have hO := h.over
  have c2 := h.c2
  have g0 := (ho).g0
  have gz0 := (ho).fz 0
  have g1 := (ho).g1
  have gz1 := (ho).fz 1
  have g2 := (ho).g2
  have gz2 := (ho).fz 2
  have g3 := (ho).g3
  have gz3 := (ho).fz 3
  have g4 := (ho).g4
  have gz4 := (ho).fz 4
  have g5 := (ho).g5
  have gz5 := (ho).fz 5
  have g6 := (ho).g6
  have gz6 := (ho).fz 6
  have g7 := (ho).g7
  have gz7 := (ho).fz 7
  have g8 := (ho).g8
  have gz8 := (ho).fz 8
  have g9 := (ho).g9
  have gz9 := (ho).fz 9
  have hsl := slotOf_lt C t hC.1
  have HS := hide (rslot_any w d p q f C l s ⟨2, 2, t, b, n, v, won, false, en⟩ t h ho)
  have HL := hide (roload_any w d p q f C l s ⟨2, 2, t, b, n, v, won, false, en⟩ (slotOf C t) (by omega) hne h ho)
  generalize rd C l (slotOf C t) = y at *
  clear hsl
  generalize slotOf C t = k at *
  clear ho h
  go_enter Try.func43, Try.ntmps43
  go_wp2_with fail
  refine HS.out.mono ?_
  rintro e w0 ⟨rfl, rfl⟩
  clear HS
  go_wp2_with fail
  refine HL.out.mono ?_
  rintro e w1 ⟨rfl, k1, t1⟩
  have S1 := hide (S0.out.acc k1 t1)
  clear k1 t1 HL S0
  clear g0 gz0 g1 gz1 g2 gz2 g3 gz3 g4 gz4 g5 gz5 g6 gz6 g7 gz7 g8 gz8 g9 gz9
  have g0 := (S1.out.rb (r := ⟨2, 2, t, b, n, v, won, false, en⟩) rfl).g0
  have gz0 := (S1.out.rb (r := ⟨2, 2, t, b, n, v, won, false, en⟩) rfl).fz 0
  have g1 := (S1.out.rb (r := ⟨2, 2, t, b, n, v, won, false, en⟩) rfl).g1
  have gz1 := (S1.out.rb (r := ⟨2, 2, t, b, n, v, won, false, en⟩) rfl).fz 1
  have g2 := (S1.out.rb (r := ⟨2, 2, t, b, n, v, won, false, en⟩) rfl).g2
  have gz2 := (S1.out.rb (r := ⟨2, 2, t, b, n, v, won, false, en⟩) rfl).fz 2
  have g3 := (S1.out.rb (r := ⟨2, 2, t, b, n, v, won, false, en⟩) rfl).g3
  have gz3 := (S1.out.rb (r := ⟨2, 2, t, b, n, v, won, false, en⟩) rfl).fz 3
  have g4 := (S1.out.rb (r := ⟨2, 2, t, b, n, v, won, false, en⟩) rfl).g4
  have gz4 := (S1.out.rb (r := ⟨2, 2, t, b, n, v, won, false, en⟩) rfl).fz 4
  have g5 := (S1.out.rb (r := ⟨2, 2, t, b, n, v, won, false, en⟩) rfl).g5
  have gz5 := (S1.out.rb (r := ⟨2, 2, t, b, n, v, won, false, en⟩) rfl).fz 5
  have g6 := (S1.out.rb (r := ⟨2, 2, t, b, n, v, won, false, en⟩) rfl).g6
  have gz6 := (S1.out.rb (r := ⟨2, 2, t, b, n, v, won, false, en⟩) rfl).fz 6
  have g7 := (S1.out.rb (r := ⟨2, 2, t, b, n, v, won, false, en⟩) rfl).g7
  have gz7 := (S1.out.rb (r := ⟨2, 2, t, b, n, v, won, false, en⟩) rfl).fz 7
  have g8 := (S1.out.rb (r := ⟨2, 2, t, b, n, v, won, false, en⟩) rfl).g8
  have gz8 := (S1.out.rb (r := ⟨2, 2, t, b, n, v, won, false, en⟩) rfl).fz 8
  have g9 := (S1.out.rb (r := ⟨2, 2, t, b, n, v, won, false, en⟩) rfl).g9
  have gz9 := (S1.out.rb (r := ⟨2, 2, t, b, n, v, won, false, en⟩) rfl).fz 9
  go_wp2_with fail
  first | refine bodyPost_end (results_none rfl _ _ _) rfl ?_ | refine bodyPost_ret (results_none rfl _ _ _) rfl ?_
  exact ⟨rfl, ((S1.out.set 6 _).set 2 _).fin rfl⟩

set_option maxHeartbeats 1000000 in
set_option maxRecDepth 10000 in
theorem rs_pop3 (hne : f ≠ d ∧ f ≠ p ∧ f ≠ q) (h : RDq w d p q C l s) (ho : RB w f d ⟨1, 3, t, b, n, v, won, false, en⟩) :
    Calls Try.prog 42 #[.pointer (some ⟨f, 0, none⟩)] w fun e w' => e = .returned (.tuple #[]) ∧ RDq w' d p q C l (wrap64 (s + 1)) ∧ RB w' f d (if t < b then ⟨1, 4, t, b, n, (rd C l (slotOf C b)), won, true, 0⟩ else ⟨1, 4, t, b, n, (rd C l (slotOf C b)), won, false, en⟩) ∧ Turned [p, q, f] w w' := by
  have S0 := hide (RS.of h ho hne)
  have hC := h.cap
  have hO := h.over
  have c2 := h.c2
  have g0 := (ho).g0
  have gz0 := (ho).fz 0
  have g1 := (ho).g1
  have gz1 := (ho).fz 1
  have g2 := (ho).g2
  have gz2 := (ho).fz 2
  have g3 := (ho).g3
  have gz3 := (ho).fz 3
  have g4 := (ho).g4
  have gz4 := (ho).fz 4
  have g5 := (ho).g5
  have gz5 := (ho).fz 5
  have g6 := (ho).g6
  have gz6 := (ho).fz 6
  have g7 := (ho).g7
  have gz7 := (ho).fz 7
  have g8 := (ho).g8
  have gz8 := (ho).fz 8
  have g9 := (ho).g9
  have gz9 := (ho).fz 9
  have hsl := slotOf_lt C b hC.1
  have HS := hide (rslot_any w d p q f C l s ⟨1, 3, t, b, n, v, won, false, en⟩ b h ho)
  have HL := hide (roload_any w d p q f C l s ⟨1, 3, t, b, n, v, won, false, en⟩ (slotOf C b) (by omega) hne h ho)
  generalize rd C l (slotOf C b) = y at *
  clear hsl
  generalize slotOf C b = k at *
  clear ho h
  go_enter Try.func42, Try.ntmps42
  go_wp2_with fail
  refine HS.out.mono ?_
  rintro e w0 ⟨rfl, rfl⟩
  clear HS
  go_wp2_with fail
  refine HL.out.mono ?_
  rintro e w1 ⟨rfl, k1, t1⟩
  have S1 := hide (S0.out.acc k1 t1)
  clear k1 t1 HL S0
  clear g0 gz0 g1 gz1 g2 gz2 g3 gz3 g4 gz4 g5 gz5 g6 gz6 g7 gz7 g8 gz8 g9 gz9
  have g0 := (S1.out.rb (r := ⟨1, 3, t, b, n, v, won, false, en⟩) rfl).g0
  have gz0 := (S1.out.rb (r := ⟨1, 3, t, b, n, v, won, false, en⟩) rfl).fz 0
  have g1 := (S1.out.rb (r := ⟨1, 3, t, b, n, v, won, false, en⟩) rfl).g1
  have gz1 := (S1.out.rb (r := ⟨1, 3, t, b, n, v, won, false, en⟩) rfl).fz 1
  have g2 := (S1.out.rb (r := ⟨1, 3, t, b, n, v, won, false, en⟩) rfl).g2
  have gz2 := (S1.out.rb (r := ⟨1, 3, t, b, n, v, won, false, en⟩) rfl).fz 2
  have g3 := (S1.out.rb (r := ⟨1, 3, t, b, n, v, won, false, en⟩) rfl).g3
  have gz3 := (S1.out.rb (r := ⟨1, 3, t, b, n, v, won, false, en⟩) rfl).fz 3
  have g4 := (S1.out.rb (r := ⟨1, 3, t, b, n, v, won, false, en⟩) rfl).g4
  have gz4 := (S1.out.rb (r := ⟨1, 3, t, b, n, v, won, false, en⟩) rfl).fz 4
  have g5 := (S1.out.rb (r := ⟨1, 3, t, b, n, v, won, false, en⟩) rfl).g5
  have gz5 := (S1.out.rb (r := ⟨1, 3, t, b, n, v, won, false, en⟩) rfl).fz 5
  have g6 := (S1.out.rb (r := ⟨1, 3, t, b, n, v, won, false, en⟩) rfl).g6
  have gz6 := (S1.out.rb (r := ⟨1, 3, t, b, n, v, won, false, en⟩) rfl).fz 6
  have g7 := (S1.out.rb (r := ⟨1, 3, t, b, n, v, won, false, en⟩) rfl).g7
  have gz7 := (S1.out.rb (r := ⟨1, 3, t, b, n, v, won, false, en⟩) rfl).fz 7
  have g8 := (S1.out.rb (r := ⟨1, 3, t, b, n, v, won, false, en⟩) rfl).g8
  have gz8 := (S1.out.rb (r := ⟨1, 3, t, b, n, v, won, false, en⟩) rfl).fz 8
  have g9 := (S1.out.rb (r := ⟨1, 3, t, b, n, v, won, false, en⟩) rfl).g9
  have gz9 := (S1.out.rb (r := ⟨1, 3, t, b, n, v, won, false, en⟩) rfl).fz 9
  go_wp2_with fail
  have S2 := hide ((S1.out.set 6 (.int .i64 y)).set 2 (.int .i64 4))
  generalize ((w1.setCell ⟨f, 6, none⟩ (.int .i64 y)).setCell ⟨f, 2, none⟩ (.int .i64 4)) = w2 at S2 ⊢
  clear g0 gz0 g1 gz1 g2 gz2 g3 gz3 g4 gz4 g5 gz5 g6 gz6 g7 gz7 g8 gz8 g9 gz9
  clear S1
  have g0 := (S2.out.rb (r := ⟨1, 4, t, b, n, y, won, false, en⟩) rfl).g0
  have gz0 := (S2.out.rb (r := ⟨1, 4, t, b, n, y, won, false, en⟩) rfl).fz 0
  have g1 := (S2.out.rb (r := ⟨1, 4, t, b, n, y, won, false, en⟩) rfl).g1
  have gz1 := (S2.out.rb (r := ⟨1, 4, t, b, n, y, won, false, en⟩) rfl).fz 1
  have g2 := (S2.out.rb (r := ⟨1, 4, t, b, n, y, won, false, en⟩) rfl).g2
  have gz2 := (S2.out.rb (r := ⟨1, 4, t, b, n, y, won, false, en⟩) rfl).fz 2
  have g3 := (S2.out.rb (r := ⟨1, 4, t, b, n, y, won, false, en⟩) rfl).g3
  have gz3 := (S2.out.rb (r := ⟨1, 4, t, b, n, y, won, false, en⟩) rfl).fz 3
  have g4 := (S2.out.rb (r := ⟨1, 4, t, b, n, y, won, false, en⟩) rfl).g4
  have gz4 := (S2.out.rb (r := ⟨1, 4, t, b, n, y, won, false, en⟩) rfl).fz 4
  have g5 := (S2.out.rb (r := ⟨1, 4, t, b, n, y, won, false, en⟩) rfl).g5
  have gz5 := (S2.out.rb (r := ⟨1, 4, t, b, n, y, won, false, en⟩) rfl).fz 5
  have g6 := (S2.out.rb (r := ⟨1, 4, t, b, n, y, won, false, en⟩) rfl).g6
  have gz6 := (S2.out.rb (r := ⟨1, 4, t, b, n, y, won, false, en⟩) rfl).fz 6
  have g7 := (S2.out.rb (r := ⟨1, 4, t, b, n, y, won, false, en⟩) rfl).g7
  have gz7 := (S2.out.rb (r := ⟨1, 4, t, b, n, y, won, false, en⟩) rfl).fz 7
  have g8 := (S2.out.rb (r := ⟨1, 4, t, b, n, y, won, false, en⟩) rfl).g8
  have gz8 := (S2.out.rb (r := ⟨1, 4, t, b, n, y, won, false, en⟩) rfl).fz 8
  have g9 := (S2.out.rb (r := ⟨1, 4, t, b, n, y, won, false, en⟩) rfl).g9
  have gz9 := (S2.out.rb (r := ⟨1, 4, t, b, n, y, won, false, en⟩) rfl).fz 9
  by_cases hz : t < b
  · go_quiet (fail)
    have HE := hide (fun m => rends_any (w2.drewN m) d f ⟨1, 4, t, b, n, y, won, false, en⟩ 0 ((S2.out.drewN m).rb rfl))
    go_wp2_with fail
    refine (HE.out _).mono ?_
    rintro e w3 ⟨rfl, k2, t2⟩
    have S3 := hide ((S2.out.drewN _).endd k2 t2)
    clear k2 t2 HE S2
    go_wp2_with fail
    first | refine bodyPost_end (results_none rfl _ _ _) rfl ?_ | refine bodyPost_ret (results_none rfl _ _ _) rfl ?_
    exact ⟨rfl, S3.out.fin rfl⟩
  · go_quiet (fail)
    go_wp2_with fail
    first | refine bodyPost_end (results_none rfl _ _ _) rfl ?_ | refine bodyPost_ret (results_none rfl _ _ _) rfl ?_
    exact ⟨rfl, (S2.out.drewN _).fin rfl⟩

set_option maxHeartbeats 1000000 in
set_option maxRecDepth 10000 in
theorem rs_pop4 (ht : -2305843009213693952 ≤ t ∧ t ≤ 2305843009213693952) (hne : f ≠ d ∧ f ≠ p ∧ f ≠ q) (h : RDq w d p q C l s) (ho : RB w f d ⟨1, 4, t, b, n, v, won, false, en⟩) :
    Calls Try.prog 42 #[.pointer (some ⟨f, 0, none⟩)] w fun e w' => e = .returned (.tuple #[]) ∧ RDq w' d p q C (if rd C l 0 = t then wr C l 0 (t + 1) else l) (wrap64 (s + 1)) ∧ RB w' f d ⟨1, 5, t, b, n, v, (decide (rd C l 0 = t)), false, en⟩ ∧ Turned [p, q, f] w w' := by
  have S0 := hide (RS.of h ho hne)
  have hC := h.cap
  have hO := h.over
  have c2 := h.c2
  have g0 := (ho).g0
  have gz0 := (ho).fz 0
  have g1 := (ho).g1
  have gz1 := (ho).fz 1
  have g2 := (ho).g2
  have gz2 := (ho).fz 2
  have g3 := (ho).g3
  have gz3 := (ho).fz 3
  have g4 := (ho).g4
  have gz4 := (ho).fz 4
  have g5 := (ho).g5
  have gz5 := (ho).fz 5
  have g6 := (ho).g6
  have gz6 := (ho).fz 6
  have g7 := (ho).g7
  have gz7 := (ho).fz 7
  have g8 := (ho).g8
  have gz8 := (ho).fz 8
  have g9 := (ho).g9
  have gz9 := (ho).fz 9
  have e0 := h.c0
  have e1 := h.c1
  have hbb : C.base + 4 < 65536 := by have := h.room; have := h.most; omega
  have HL : Hid (Calls Try.prog 65 #[.pointer (some ⟨p, 0, none⟩), .int .i64 C.base, .int .i64 t, .int .i64 (IntKind.i64.wrap (t + 1))] w.drew fun e w' => e = .returned (.tuple #[.bool (decide (rd C l 0 = t)), .int .i64 0]) ∧ RDq w' d p q C (if rd C l 0 = t then wr C l 0 (t + 1) else l) (wrap64 (s + 1)) ∧ Turned [p, q] w.drew w') := by
    have := roswap_any w.drew d p q C l s 0 t (t + 1) (by omega) h.drew
    rw [show IntKind.i64.wrap (t + 1) = t + 1 by rw [IntKind.wrap_i64]; omega]; exact this
  clear ho h
  go_enter Try.func42, Try.ntmps42
  go_wp2_with fail
  go_region_held3 (fun w' => w'.cell? ⟨f, 0, none⟩ = some (.pointer (some ⟨d, 0, none⟩)) ∧ w'.cell? ⟨f, 3, none⟩ = some (.int .i64 t) ∧ w'.cell? ⟨d, 0, none⟩ = some (.pointer (some ⟨p, 0, none⟩)) ∧ w'.cell? ⟨d, 1, none⟩ = some (.int .i64 C.base)) (go_keep)
    (first
      | (go_at_call 65; refine HL.out.mono ?_; rintro e w1 ⟨rfl, m1, t1⟩; have S1 := hide (S0.out.drew.acc m1 t1); have k1 := (S1.out.rb (r := ⟨1, 4, t, b, n, v, won, false, en⟩) rfl).g0; have k2 := (S1.out.rb (r := ⟨1, 4, t, b, n, v, won, false, en⟩) rfl).g3; have k3 := m1.c0; have k4 := m1.c1; clear m1 t1))
  clear HL S0 e0 e1
  clear g0 gz0 g1 gz1 g2 gz2 g3 gz3 g4 gz4 g5 gz5 g6 gz6 g7 gz7 g8 gz8 g9 gz9
  have g0 := (S1.out.rb (r := ⟨1, 4, t, b, n, v, won, false, en⟩) rfl).g0
  have gz0 := (S1.out.rb (r := ⟨1, 4, t, b, n, v, won, false, en⟩) rfl).fz 0
  have g1 := (S1.out.rb (r := ⟨1, 4, t, b, n, v, won, false, en⟩) rfl).g1
  have gz1 := (S1.out.rb (r := ⟨1, 4, t, b, n, v, won, false, en⟩) rfl).fz 1
  have g2 := (S1.out.rb (r := ⟨1, 4, t, b, n, v, won, false, en⟩) rfl).g2
  have gz2 := (S1.out.rb (r := ⟨1, 4, t, b, n, v, won, false, en⟩) rfl).fz 2
  have g3 := (S1.out.rb (r := ⟨1, 4, t, b, n, v, won, false, en⟩) rfl).g3
  have gz3 := (S1.out.rb (r := ⟨1, 4, t, b, n, v, won, false, en⟩) rfl).fz 3
  have g4 := (S1.out.rb (r := ⟨1, 4, t, b, n, v, won, false, en⟩) rfl).g4
  have gz4 := (S1.out.rb (r := ⟨1, 4, t, b, n, v, won, false, en⟩) rfl).fz 4
  have g5 := (S1.out.rb (r := ⟨1, 4, t, b, n, v, won, false, en⟩) rfl).g5
  have gz5 := (S1.out.rb (r := ⟨1, 4, t, b, n, v, won, false, en⟩) rfl).fz 5
  have g6 := (S1.out.rb (r := ⟨1, 4, t, b, n, v, won, false, en⟩) rfl).g6
  have gz6 := (S1.out.rb (r := ⟨1, 4, t, b, n, v, won, false, en⟩) rfl).fz 6
  have g7 := (S1.out.rb (r := ⟨1, 4, t, b, n, v, won, false, en⟩) rfl).g7
  have gz7 := (S1.out.rb (r := ⟨1, 4, t, b, n, v, won, false, en⟩) rfl).fz 7
  have g8 := (S1.out.rb (r := ⟨1, 4, t, b, n, v, won, false, en⟩) rfl).g8
  have gz8 := (S1.out.rb (r := ⟨1, 4, t, b, n, v, won, false, en⟩) rfl).fz 8
  have g9 := (S1.out.rb (r := ⟨1, 4, t, b, n, v, won, false, en⟩) rfl).g9
  have gz9 := (S1.out.rb (r := ⟨1, 4, t, b, n, v, won, false, en⟩) rfl).fz 9
  by_cases hz : rd C l 0 = t
  · rw [if_pos hz] at S1
    go_wp2_with fail
    first | refine bodyPost_end (results_none rfl _ _ _) rfl ?_ | refine bodyPost_ret (results_none rfl _ _ _) rfl ?_
    exact ⟨rfl, ((S1.out.set 7 _).set 2 _).fin rfl⟩
  · rw [if_neg hz] at S1
    go_wp2_with fail
    first | refine bodyPost_end (results_none rfl _ _ _) rfl ?_ | refine bodyPost_ret (results_none rfl _ _ _) rfl ?_
    exact ⟨rfl, ((S1.out.set 7 _).set 2 _).fin rfl⟩

set_option maxHeartbeats 1000000 in
set_option maxRecDepth 10000 in
theorem rs_steal3 (ht : -2305843009213693952 ≤ t ∧ t ≤ 2305843009213693952) (hne : f ≠ d ∧ f ≠ p ∧ f ≠ q) (h : RDq w d p q C l s) (ho : RB w f d ⟨2, 3, t, b, n, v, won, false, en⟩) :
    Calls Try.prog 43 #[.pointer (some ⟨f, 0, none⟩)] w fun e w' => e = .returned (.tuple #[]) ∧ RDq w' d p q C (if rd C l 0 = t then wr C l 0 (t + 1) else l) (wrap64 (s + 1)) ∧ RB w' f d (if rd C l 0 = t then ⟨2, 3, t, b, n, v, won, true, 0⟩ else ⟨2, 3, t, b, n, 0, won, true, 16⟩) ∧ Turned [p, q, f] w w' := by
  have S0 := hide (RS.of h ho hne)
  have hC := h.cap
  have hO := h.over
  have c2 := h.c2
  have g0 := (ho).g0
  have gz0 := (ho).fz 0
  have g1 := (ho).g1
  have gz1 := (ho).fz 1
  have g2 := (ho).g2
  have gz2 := (ho).fz 2
  have g3 := (ho).g3
  have gz3 := (ho).fz 3
  have g4 := (ho).g4
  have gz4 := (ho).fz 4
  have g5 := (ho).g5
  have gz5 := (ho).fz 5
  have g6 := (ho).g6
  have gz6 := (ho).fz 6
  have g7 := (ho).g7
  have gz7 := (ho).fz 7
  have g8 := (ho).g8
  have gz8 := (ho).fz 8
  have g9 := (ho).g9
  have gz9 := (ho).fz 9
  have e0 := h.c0
  have e1 := h.c1
  have hbb : C.base + 4 < 65536 := by have := h.room; have := h.most; omega
  have HL : Hid (Calls Try.prog 65 #[.pointer (some ⟨p, 0, none⟩), .int .i64 C.base, .int .i64 t, .int .i64 (IntKind.i64.wrap (t + 1))] w.drew fun e w' => e = .returned (.tuple #[.bool (decide (rd C l 0 = t)), .int .i64 0]) ∧ RDq w' d p q C (if rd C l 0 = t then wr C l 0 (t + 1) else l) (wrap64 (s + 1)) ∧ Turned [p, q] w.drew w') := by
    have := roswap_any w.drew d p q C l s 0 t (t + 1) (by omega) h.drew
    rw [show IntKind.i64.wrap (t + 1) = t + 1 by rw [IntKind.wrap_i64]; omega]; exact this
  clear ho h
  go_enter Try.func43, Try.ntmps43
  go_wp2_with fail
  go_region_held3 (fun w' => w'.cell? ⟨f, 0, none⟩ = some (.pointer (some ⟨d, 0, none⟩)) ∧ w'.cell? ⟨f, 3, none⟩ = some (.int .i64 t) ∧ w'.cell? ⟨d, 0, none⟩ = some (.pointer (some ⟨p, 0, none⟩)) ∧ w'.cell? ⟨d, 1, none⟩ = some (.int .i64 C.base)) (go_keep)
    (first
      | (go_at_call 65; refine HL.out.mono ?_; rintro e w1 ⟨rfl, m1, t1⟩; have S1 := hide (S0.out.drew.acc m1 t1); have k1 := (S1.out.rb (r := ⟨2, 3, t, b, n, v, won, false, en⟩) rfl).g0; have k2 := (S1.out.rb (r := ⟨2, 3, t, b, n, v, won, false, en⟩) rfl).g3; have k3 := m1.c0; have k4 := m1.c1; clear m1 t1))
  clear HL S0 e0 e1
  clear g0 gz0 g1 gz1 g2 gz2 g3 gz3 g4 gz4 g5 gz5 g6 gz6 g7 gz7 g8 gz8 g9 gz9
  have g0 := (S1.out.rb (r := ⟨2, 3, t, b, n, v, won, false, en⟩) rfl).g0
  have gz0 := (S1.out.rb (r := ⟨2, 3, t, b, n, v, won, false, en⟩) rfl).fz 0
  have g1 := (S1.out.rb (r := ⟨2, 3, t, b, n, v, won, false, en⟩) rfl).g1
  have gz1 := (S1.out.rb (r := ⟨2, 3, t, b, n, v, won, false, en⟩) rfl).fz 1
  have g2 := (S1.out.rb (r := ⟨2, 3, t, b, n, v, won, false, en⟩) rfl).g2
  have gz2 := (S1.out.rb (r := ⟨2, 3, t, b, n, v, won, false, en⟩) rfl).fz 2
  have g3 := (S1.out.rb (r := ⟨2, 3, t, b, n, v, won, false, en⟩) rfl).g3
  have gz3 := (S1.out.rb (r := ⟨2, 3, t, b, n, v, won, false, en⟩) rfl).fz 3
  have g4 := (S1.out.rb (r := ⟨2, 3, t, b, n, v, won, false, en⟩) rfl).g4
  have gz4 := (S1.out.rb (r := ⟨2, 3, t, b, n, v, won, false, en⟩) rfl).fz 4
  have g5 := (S1.out.rb (r := ⟨2, 3, t, b, n, v, won, false, en⟩) rfl).g5
  have gz5 := (S1.out.rb (r := ⟨2, 3, t, b, n, v, won, false, en⟩) rfl).fz 5
  have g6 := (S1.out.rb (r := ⟨2, 3, t, b, n, v, won, false, en⟩) rfl).g6
  have gz6 := (S1.out.rb (r := ⟨2, 3, t, b, n, v, won, false, en⟩) rfl).fz 6
  have g7 := (S1.out.rb (r := ⟨2, 3, t, b, n, v, won, false, en⟩) rfl).g7
  have gz7 := (S1.out.rb (r := ⟨2, 3, t, b, n, v, won, false, en⟩) rfl).fz 7
  have g8 := (S1.out.rb (r := ⟨2, 3, t, b, n, v, won, false, en⟩) rfl).g8
  have gz8 := (S1.out.rb (r := ⟨2, 3, t, b, n, v, won, false, en⟩) rfl).fz 8
  have g9 := (S1.out.rb (r := ⟨2, 3, t, b, n, v, won, false, en⟩) rfl).g9
  have gz9 := (S1.out.rb (r := ⟨2, 3, t, b, n, v, won, false, en⟩) rfl).fz 9
  have HE := hide (fun en' => rends_any w1 d f ⟨2, 3, t, b, n, v, won, false, en⟩ en' (S1.out.rb rfl))
  by_cases hz : rd C l 0 = t
  · rw [if_pos hz] at S1
    go_wp2_with fail
    refine (HE.out 0).mono ?_
    rintro e w2 ⟨rfl, k2, t2⟩
    have S2 := hide (S1.out.endd k2 t2)
    clear k2 t2 HE S1
    go_wp2_with fail
    first | refine bodyPost_end (results_none rfl _ _ _) rfl ?_ | refine bodyPost_ret (results_none rfl _ _ _) rfl ?_
    exact ⟨rfl, S2.out.fin rfl⟩
  · rw [if_neg hz] at S1
    go_wp2_with fail
    refine (HE.out 16).mono ?_
    rintro e w2 ⟨rfl, k2, t2⟩
    have S2 := hide (S1.out.endd k2 t2)
    clear k2 t2 HE S1
    go_wp2_with fail
    first | refine bodyPost_end (results_none rfl _ _ _) rfl ?_ | refine bodyPost_ret (results_none rfl _ _ _) rfl ?_
    exact ⟨rfl, S2.out.fin rfl⟩

set_option maxHeartbeats 1000000 in
set_option maxRecDepth 10000 in
theorem rs_stk20 (kk : Int) (hne : f ≠ d ∧ f ≠ p ∧ f ≠ q) (h : RDq w d p q C l s) (ho : RB w f d ⟨kk, 20, t, b, n, v, won, false, en⟩) :
    Calls Try.prog 40 #[.pointer (some ⟨f, 0, none⟩)] w fun e w' => e = .returned (.tuple #[]) ∧ RDq w' d p q C (if rd C l 2 = 0 then wr C l 2 1 else l) (wrap64 (s + 1)) ∧ RB w' f d (if rd C l 2 = 0 then ⟨kk, 21, t, b, n, v, won, false, en⟩ else ⟨kk, 20, t, b, n, v, won, false, en⟩) ∧ Turned [p, q, f] w w' := by
  have S0 := hide (RS.of h ho hne)
  have hC := h.cap
  have hO := h.over
  have c2 := h.c2
  have g0 := (ho).g0
  have gz0 := (ho).fz 0
  have g1 := (ho).g1
  have gz1 := (ho).fz 1
  have g2 := (ho).g2
  have gz2 := (ho).fz 2
  have g3 := (ho).g3
  have gz3 := (ho).fz 3
  have g4 := (ho).g4
  have gz4 := (ho).fz 4
  have g5 := (ho).g5
  have gz5 := (ho).fz 5
  have g6 := (ho).g6
  have gz6 := (ho).fz 6
  have g7 := (ho).g7
  have gz7 := (ho).fz 7
  have g8 := (ho).g8
  have gz8 := (ho).fz 8
  have g9 := (ho).g9
  have gz9 := (ho).fz 9
  have e0 := h.c0
  have e1 := h.c1
  have hbb : C.base + 4 < 65536 := by have := h.room; have := h.most; omega
  have HL : Hid (Calls Try.prog 65 #[.pointer (some ⟨p, 0, none⟩), .int .i64 (IntKind.i64.wrap ((C.base : Int) + 2)), .int .i64 0, .int .i64 1] w.drew fun e w' => e = .returned (.tuple #[.bool (decide (rd C l 2 = 0)), .int .i64 0]) ∧ RDq w' d p q C (if rd C l 2 = 0 then wr C l 2 1 else l) (wrap64 (s + 1)) ∧ Turned [p, q] w.drew w') := by
    have := roswap_any w.drew d p q C l s 2 0 1 (by omega) h.drew
    rw [show IntKind.i64.wrap ((C.base : Int) + 2) = ((C.base + 2 : Nat) : Int) by rw [IntKind.wrap_i64]; omega]; exact this
  clear ho h
  go_enter Try.func40, Try.ntmps40
  go_wp2_with fail
  go_region_held3 (fun w' => w'.cell? ⟨f, 0, none⟩ = some (.pointer (some ⟨d, 0, none⟩)) ∧ w'.cell? ⟨f, 3, none⟩ = some (.int .i64 t) ∧ w'.cell? ⟨d, 0, none⟩ = some (.pointer (some ⟨p, 0, none⟩)) ∧ w'.cell? ⟨d, 1, none⟩ = some (.int .i64 C.base)) (go_keep)
    (first
      | (go_at_call 65; refine HL.out.mono ?_; rintro e w1 ⟨rfl, m1, t1⟩; have S1 := hide (S0.out.drew.acc m1 t1); have k1 := (S1.out.rb (r := ⟨kk, 20, t, b, n, v, won, false, en⟩) rfl).g0; have k2 := (S1.out.rb (r := ⟨kk, 20, t, b, n, v, won, false, en⟩) rfl).g3; have k3 := m1.c0; have k4 := m1.c1; clear m1 t1))
  clear HL S0 e0 e1
  clear g0 gz0 g1 gz1 g2 gz2 g3 gz3 g4 gz4 g5 gz5 g6 gz6 g7 gz7 g8 gz8 g9 gz9
  have g0 := (S1.out.rb (r := ⟨kk, 20, t, b, n, v, won, false, en⟩) rfl).g0
  have gz0 := (S1.out.rb (r := ⟨kk, 20, t, b, n, v, won, false, en⟩) rfl).fz 0
  have g1 := (S1.out.rb (r := ⟨kk, 20, t, b, n, v, won, false, en⟩) rfl).g1
  have gz1 := (S1.out.rb (r := ⟨kk, 20, t, b, n, v, won, false, en⟩) rfl).fz 1
  have g2 := (S1.out.rb (r := ⟨kk, 20, t, b, n, v, won, false, en⟩) rfl).g2
  have gz2 := (S1.out.rb (r := ⟨kk, 20, t, b, n, v, won, false, en⟩) rfl).fz 2
  have g3 := (S1.out.rb (r := ⟨kk, 20, t, b, n, v, won, false, en⟩) rfl).g3
  have gz3 := (S1.out.rb (r := ⟨kk, 20, t, b, n, v, won, false, en⟩) rfl).fz 3
  have g4 := (S1.out.rb (r := ⟨kk, 20, t, b, n, v, won, false, en⟩) rfl).g4
  have gz4 := (S1.out.rb (r := ⟨kk, 20, t, b, n, v, won, false, en⟩) rfl).fz 4
  have g5 := (S1.out.rb (r := ⟨kk, 20, t, b, n, v, won, false, en⟩) rfl).g5
  have gz5 := (S1.out.rb (r := ⟨kk, 20, t, b, n, v, won, false, en⟩) rfl).fz 5
  have g6 := (S1.out.rb (r := ⟨kk, 20, t, b, n, v, won, false, en⟩) rfl).g6
  have gz6 := (S1.out.rb (r := ⟨kk, 20, t, b, n, v, won, false, en⟩) rfl).fz 6
  have g7 := (S1.out.rb (r := ⟨kk, 20, t, b, n, v, won, false, en⟩) rfl).g7
  have gz7 := (S1.out.rb (r := ⟨kk, 20, t, b, n, v, won, false, en⟩) rfl).fz 7
  have g8 := (S1.out.rb (r := ⟨kk, 20, t, b, n, v, won, false, en⟩) rfl).g8
  have gz8 := (S1.out.rb (r := ⟨kk, 20, t, b, n, v, won, false, en⟩) rfl).fz 8
  have g9 := (S1.out.rb (r := ⟨kk, 20, t, b, n, v, won, false, en⟩) rfl).g9
  have gz9 := (S1.out.rb (r := ⟨kk, 20, t, b, n, v, won, false, en⟩) rfl).fz 9
  by_cases hz : rd C l 2 = 0
  · rw [if_pos hz] at S1
    go_wp2_with fail
    first | refine bodyPost_end (results_none rfl _ _ _) rfl ?_ | refine bodyPost_ret (results_none rfl _ _ _) rfl ?_
    exact ⟨rfl, (S1.out.set 2 _).fin rfl⟩
  · rw [if_neg hz] at S1
    go_wp2_with fail
    first | refine bodyPost_end (results_none rfl _ _ _) rfl ?_ | refine bodyPost_ret (results_none rfl _ _ _) rfl ?_
    exact ⟨rfl, S1.out.fin rfl⟩

set_option maxHeartbeats 1000000 in
set_option maxRecDepth 10000 in
theorem rs_stk21a (hne : f ≠ d ∧ f ≠ p ∧ f ≠ q) (h : RDq w d p q C l s) (ho : RB w f d ⟨0, 21, t, b, n, v, won, false, en⟩) :
    Calls Try.prog 40 #[.pointer (some ⟨f, 0, none⟩)] w fun e w' => e = .returned (.tuple #[]) ∧ RDq w' d p q C l (wrap64 (s + 1)) ∧ RB w' f d (if (C.over : Int) ≤ rd C l 3 then ⟨0, 24, t, b, (rd C l 3), v, won, false, 14⟩ else ⟨0, 22, t, b, (rd C l 3), v, won, false, en⟩) ∧ Turned [p, q, f] w w' := by
  have S0 := hide (RS.of h ho hne)
  have hC := h.cap
  have hO := h.over
  have c2 := h.c2
  have g0 := (ho).g0
  have gz0 := (ho).fz 0
  have g1 := (ho).g1
  have gz1 := (ho).fz 1
  have g2 := (ho).g2
  have gz2 := (ho).fz 2
  have g3 := (ho).g3
  have gz3 := (ho).fz 3
  have g4 := (ho).g4
  have gz4 := (ho).fz 4
  have g5 := (ho).g5
  have gz5 := (ho).fz 5
  have g6 := (ho).g6
  have gz6 := (ho).fz 6
  have g7 := (ho).g7
  have gz7 := (ho).fz 7
  have g8 := (ho).g8
  have gz8 := (ho).fz 8
  have g9 := (ho).g9
  have gz9 := (ho).fz 9
  have HL := hide (roload_any w d p q f C l s ⟨0, 21, t, b, n, v, won, false, en⟩ 3 (by omega) hne h ho)
  generalize rd C l 3 = y at *
  clear ho h
  go_enter Try.func40, Try.ntmps40
  go_wp2_with fail
  refine HL.out.mono ?_
  rintro e w1 ⟨rfl, k1, t1⟩
  have S1 := hide (S0.out.acc k1 t1)
  clear k1 t1 HL S0
  clear g0 gz0 g1 gz1 g2 gz2 g3 gz3 g4 gz4 g5 gz5 g6 gz6 g7 gz7 g8 gz8 g9 gz9
  have g0 := (S1.out.rb (r := ⟨0, 21, t, b, n, v, won, false, en⟩) rfl).g0
  have gz0 := (S1.out.rb (r := ⟨0, 21, t, b, n, v, won, false, en⟩) rfl).fz 0
  have g1 := (S1.out.rb (r := ⟨0, 21, t, b, n, v, won, false, en⟩) rfl).g1
  have gz1 := (S1.out.rb (r := ⟨0, 21, t, b, n, v, won, false, en⟩) rfl).fz 1
  have g2 := (S1.out.rb (r := ⟨0, 21, t, b, n, v, won, false, en⟩) rfl).g2
  have gz2 := (S1.out.rb (r := ⟨0, 21, t, b, n, v, won, false, en⟩) rfl).fz 2
  have g3 := (S1.out.rb (r := ⟨0, 21, t, b, n, v, won, false, en⟩) rfl).g3
  have gz3 := (S1.out.rb (r := ⟨0, 21, t, b, n, v, won, false, en⟩) rfl).fz 3
  have g4 := (S1.out.rb (r := ⟨0, 21, t, b, n, v, won, false, en⟩) rfl).g4
  have gz4 := (S1.out.rb (r := ⟨0, 21, t, b, n, v, won, false, en⟩) rfl).fz 4
  have g5 := (S1.out.rb (r := ⟨0, 21, t, b, n, v, won, false, en⟩) rfl).g5
  have gz5 := (S1.out.rb (r := ⟨0, 21, t, b, n, v, won, false, en⟩) rfl).fz 5
  have g6 := (S1.out.rb (r := ⟨0, 21, t, b, n, v, won, false, en⟩) rfl).g6
  have gz6 := (S1.out.rb (r := ⟨0, 21, t, b, n, v, won, false, en⟩) rfl).fz 6
  have g7 := (S1.out.rb (r := ⟨0, 21, t, b, n, v, won, false, en⟩) rfl).g7
  have gz7 := (S1.out.rb (r := ⟨0, 21, t, b, n, v, won, false, en⟩) rfl).fz 7
  have g8 := (S1.out.rb (r := ⟨0, 21, t, b, n, v, won, false, en⟩) rfl).g8
  have gz8 := (S1.out.rb (r := ⟨0, 21, t, b, n, v, won, false, en⟩) rfl).fz 8
  have g9 := (S1.out.rb (r := ⟨0, 21, t, b, n, v, won, false, en⟩) rfl).g9
  have gz9 := (S1.out.rb (r := ⟨0, 21, t, b, n, v, won, false, en⟩) rfl).fz 9
  go_wp2_with fail
  have S2 := hide ((S1.out.set 5 (.int .i64 y)).set 2 (.int .i64 22))
  generalize ((w1.setCell ⟨f, 5, none⟩ (.int .i64 y)).setCell ⟨f, 2, none⟩ (.int .i64 22)) = w2 at S2 ⊢
  clear g0 gz0 g1 gz1 g2 gz2 g3 gz3 g4 gz4 g5 gz5 g6 gz6 g7 gz7 g8 gz8 g9 gz9
  clear S1
  have g0 := (S2.out.rb (r := ⟨0, 22, t, b, y, v, won, false, en⟩) rfl).g0
  have gz0 := (S2.out.rb (r := ⟨0, 22, t, b, y, v, won, false, en⟩) rfl).fz 0
  have g1 := (S2.out.rb (r := ⟨0, 22, t, b, y, v, won, false, en⟩) rfl).g1
  have gz1 := (S2.out.rb (r := ⟨0, 22, t, b, y, v, won, false, en⟩) rfl).fz 1
  have g2 := (S2.out.rb (r := ⟨0, 22, t, b, y, v, won, false, en⟩) rfl).g2
  have gz2 := (S2.out.rb (r := ⟨0, 22, t, b, y, v, won, false, en⟩) rfl).fz 2
  have g3 := (S2.out.rb (r := ⟨0, 22, t, b, y, v, won, false, en⟩) rfl).g3
  have gz3 := (S2.out.rb (r := ⟨0, 22, t, b, y, v, won, false, en⟩) rfl).fz 3
  have g4 := (S2.out.rb (r := ⟨0, 22, t, b, y, v, won, false, en⟩) rfl).g4
  have gz4 := (S2.out.rb (r := ⟨0, 22, t, b, y, v, won, false, en⟩) rfl).fz 4
  have g5 := (S2.out.rb (r := ⟨0, 22, t, b, y, v, won, false, en⟩) rfl).g5
  have gz5 := (S2.out.rb (r := ⟨0, 22, t, b, y, v, won, false, en⟩) rfl).fz 5
  have g6 := (S2.out.rb (r := ⟨0, 22, t, b, y, v, won, false, en⟩) rfl).g6
  have gz6 := (S2.out.rb (r := ⟨0, 22, t, b, y, v, won, false, en⟩) rfl).fz 6
  have g7 := (S2.out.rb (r := ⟨0, 22, t, b, y, v, won, false, en⟩) rfl).g7
  have gz7 := (S2.out.rb (r := ⟨0, 22, t, b, y, v, won, false, en⟩) rfl).fz 7
  have g8 := (S2.out.rb (r := ⟨0, 22, t, b, y, v, won, false, en⟩) rfl).g8
  have gz8 := (S2.out.rb (r := ⟨0, 22, t, b, y, v, won, false, en⟩) rfl).fz 8
  have g9 := (S2.out.rb (r := ⟨0, 22, t, b, y, v, won, false, en⟩) rfl).g9
  have gz9 := (S2.out.rb (r := ⟨0, 22, t, b, y, v, won, false, en⟩) rfl).fz 9
  have d3 := S2.out.dq.c3
  by_cases hz : (C.over : Int) ≤ y
  · skip
    go_quiet (fail)
    go_wp2_with fail
    first | refine bodyPost_end (results_none rfl _ _ _) rfl ?_ | refine bodyPost_ret (results_none rfl _ _ _) rfl ?_
    exact ⟨rfl, (((S2.out.drewN _).set 9 _).set 2 _).fin rfl⟩
  · go_quiet (fail)
    go_wp2_with fail
    all_goals first | (refine bodyPost_end (results_none rfl _ _ _) rfl ⟨rfl, (S2.out.drewN _).fin rfl⟩) | (rename_i hh; exact absurd hh.2 (by simp [hz]))

set_option maxHeartbeats 1000000 in
set_option maxRecDepth 10000 in
theorem rs_stk21b (kk : Int) (hkk : kk ≠ 0) (hne : f ≠ d ∧ f ≠ p ∧ f ≠ q) (h : RDq w d p q C l s) (ho : RB w f d ⟨kk, 21, t, b, n, v, won, false, en⟩) :
    Calls Try.prog 40 #[.pointer (some ⟨f, 0, none⟩)] w fun e w' => e = .returned (.tuple #[]) ∧ RDq w' d p q C l (wrap64 (s + 1)) ∧ RB w' f d (if rd C l 3 = 0 then ⟨kk, 24, t, b, (rd C l 3), v, won, false, 15⟩ else ⟨kk, 22, t, b, (rd C l 3), v, won, false, en⟩) ∧ Turned [p, q, f] w w' := by
  have S0 := hide (RS.of h ho hne)
  have hC := h.cap
  have hO := h.over
  have c2 := h.c2
  have g0 := (ho).g0
  have gz0 := (ho).fz 0
  have g1 := (ho).g1
  have gz1 := (ho).fz 1
  have g2 := (ho).g2
  have gz2 := (ho).fz 2
  have g3 := (ho).g3
  have gz3 := (ho).fz 3
  have g4 := (ho).g4
  have gz4 := (ho).fz 4
  have g5 := (ho).g5
  have gz5 := (ho).fz 5
  have g6 := (ho).g6
  have gz6 := (ho).fz 6
  have g7 := (ho).g7
  have gz7 := (ho).fz 7
  have g8 := (ho).g8
  have gz8 := (ho).fz 8
  have g9 := (ho).g9
  have gz9 := (ho).fz 9
  have HL := hide (roload_any w d p q f C l s ⟨kk, 21, t, b, n, v, won, false, en⟩ 3 (by omega) hne h ho)
  generalize rd C l 3 = y at *
  clear ho h
  go_enter Try.func40, Try.ntmps40
  go_wp2_with fail
  refine HL.out.mono ?_
  rintro e w1 ⟨rfl, k1, t1⟩
  have S1 := hide (S0.out.acc k1 t1)
  clear k1 t1 HL S0
  clear g0 gz0 g1 gz1 g2 gz2 g3 gz3 g4 gz4 g5 gz5 g6 gz6 g7 gz7 g8 gz8 g9 gz9
  have g0 := (S1.out.rb (r := ⟨kk, 21, t, b, n, v, won, false, en⟩) rfl).g0
  have gz0 := (S1.out.rb (r := ⟨kk, 21, t, b, n, v, won, false, en⟩) rfl).fz 0
  have g1 := (S1.out.rb (r := ⟨kk, 21, t, b, n, v, won, false, en⟩) rfl).g1
  have gz1 := (S1.out.rb (r := ⟨kk, 21, t, b, n, v, won, false, en⟩) rfl).fz 1
  have g2 := (S1.out.rb (r := ⟨kk, 21, t, b, n, v, won, false, en⟩) rfl).g2
  have gz2 := (S1.out.rb (r := ⟨kk, 21, t, b, n, v, won, false, en⟩) rfl).fz 2
  have g3 := (S1.out.rb (r := ⟨kk, 21, t, b, n, v, won, false, en⟩) rfl).g3
  have gz3 := (S1.out.rb (r := ⟨kk, 21, t, b, n, v, won, false, en⟩) rfl).fz 3
  have g4 := (S1.out.rb (r := ⟨kk, 21, t, b, n, v, won, false, en⟩) rfl).g4
  have gz4 := (S1.out.rb (r := ⟨kk, 21, t, b, n, v, won, false, en⟩) rfl).fz 4
  have g5 := (S1.out.rb (r := ⟨kk, 21, t, b, n, v, won, false, en⟩) rfl).g5
  have gz5 := (S1.out.rb (r := ⟨kk, 21, t, b, n, v, won, false, en⟩) rfl).fz 5
  have g6 := (S1.out.rb (r := ⟨kk, 21, t, b, n, v, won, false, en⟩) rfl).g6
  have gz6 := (S1.out.rb (r := ⟨kk, 21, t, b, n, v, won, false, en⟩) rfl).fz 6
  have g7 := (S1.out.rb (r := ⟨kk, 21, t, b, n, v, won, false, en⟩) rfl).g7
  have gz7 := (S1.out.rb (r := ⟨kk, 21, t, b, n, v, won, false, en⟩) rfl).fz 7
  have g8 := (S1.out.rb (r := ⟨kk, 21, t, b, n, v, won, false, en⟩) rfl).g8
  have gz8 := (S1.out.rb (r := ⟨kk, 21, t, b, n, v, won, false, en⟩) rfl).fz 8
  have g9 := (S1.out.rb (r := ⟨kk, 21, t, b, n, v, won, false, en⟩) rfl).g9
  have gz9 := (S1.out.rb (r := ⟨kk, 21, t, b, n, v, won, false, en⟩) rfl).fz 9
  go_wp2_with fail
  have S2 := hide ((S1.out.set 5 (.int .i64 y)).set 2 (.int .i64 22))
  generalize ((w1.setCell ⟨f, 5, none⟩ (.int .i64 y)).setCell ⟨f, 2, none⟩ (.int .i64 22)) = w2 at S2 ⊢
  clear g0 gz0 g1 gz1 g2 gz2 g3 gz3 g4 gz4 g5 gz5 g6 gz6 g7 gz7 g8 gz8 g9 gz9
  clear S1
  have g0 := (S2.out.rb (r := ⟨kk, 22, t, b, y, v, won, false, en⟩) rfl).g0
  have gz0 := (S2.out.rb (r := ⟨kk, 22, t, b, y, v, won, false, en⟩) rfl).fz 0
  have g1 := (S2.out.rb (r := ⟨kk, 22, t, b, y, v, won, false, en⟩) rfl).g1
  have gz1 := (S2.out.rb (r := ⟨kk, 22, t, b, y, v, won, false, en⟩) rfl).fz 1
  have g2 := (S2.out.rb (r := ⟨kk, 22, t, b, y, v, won, false, en⟩) rfl).g2
  have gz2 := (S2.out.rb (r := ⟨kk, 22, t, b, y, v, won, false, en⟩) rfl).fz 2
  have g3 := (S2.out.rb (r := ⟨kk, 22, t, b, y, v, won, false, en⟩) rfl).g3
  have gz3 := (S2.out.rb (r := ⟨kk, 22, t, b, y, v, won, false, en⟩) rfl).fz 3
  have g4 := (S2.out.rb (r := ⟨kk, 22, t, b, y, v, won, false, en⟩) rfl).g4
  have gz4 := (S2.out.rb (r := ⟨kk, 22, t, b, y, v, won, false, en⟩) rfl).fz 4
  have g5 := (S2.out.rb (r := ⟨kk, 22, t, b, y, v, won, false, en⟩) rfl).g5
  have gz5 := (S2.out.rb (r := ⟨kk, 22, t, b, y, v, won, false, en⟩) rfl).fz 5
  have g6 := (S2.out.rb (r := ⟨kk, 22, t, b, y, v, won, false, en⟩) rfl).g6
  have gz6 := (S2.out.rb (r := ⟨kk, 22, t, b, y, v, won, false, en⟩) rfl).fz 6
  have g7 := (S2.out.rb (r := ⟨kk, 22, t, b, y, v, won, false, en⟩) rfl).g7
  have gz7 := (S2.out.rb (r := ⟨kk, 22, t, b, y, v, won, false, en⟩) rfl).fz 7
  have g8 := (S2.out.rb (r := ⟨kk, 22, t, b, y, v, won, false, en⟩) rfl).g8
  have gz8 := (S2.out.rb (r := ⟨kk, 22, t, b, y, v, won, false, en⟩) rfl).fz 8
  have g9 := (S2.out.rb (r := ⟨kk, 22, t, b, y, v, won, false, en⟩) rfl).g9
  have gz9 := (S2.out.rb (r := ⟨kk, 22, t, b, y, v, won, false, en⟩) rfl).fz 9
  have d3 := S2.out.dq.c3
  by_cases hz : y = 0
  · subst hz
    go_quiet (fail)
    go_wp2_with fail
    first | refine bodyPost_end (results_none rfl _ _ _) rfl ?_ | refine bodyPost_ret (results_none rfl _ _ _) rfl ?_
    exact ⟨rfl, (((S2.out.drewN _).set 9 _).set 2 _).fin rfl⟩
  · go_quiet (fail)
    go_wp2_with fail
    all_goals first | (refine bodyPost_end (results_none rfl _ _ _) rfl ⟨rfl, (S2.out.drewN _).fin rfl⟩) | (rename_i hh; exact absurd hh.2 (by simp [hz]))

set_option maxHeartbeats 1000000 in
set_option maxRecDepth 10000 in
theorem rs_stk22a (N : Nat) (hN : n = (N : Int)) (hNo : N < C.over) (hne : f ≠ d ∧ f ≠ p ∧ f ≠ q) (h : RDq w d p q C l s) (ho : RB w f d ⟨0, 22, t, b, n, v, won, false, en⟩) :
    Calls Try.prog 40 #[.pointer (some ⟨f, 0, none⟩)] w fun e w' => e = .returned (.tuple #[]) ∧ RDq w' d p q C (wr C l (4 + C.cap + N) v) (wrap64 (s + 1)) ∧ RB w' f d ⟨0, 23, t, b, n, v, won, false, en⟩ ∧ Turned [p, q, f] w w' := by
  have S0 := hide (RS.of h ho hne)
  have hC := h.cap
  have hO := h.over
  have c2 := h.c2
  have g0 := (ho).g0
  have gz0 := (ho).fz 0
  have g1 := (ho).g1
  have gz1 := (ho).fz 1
  have g2 := (ho).g2
  have gz2 := (ho).fz 2
  have g3 := (ho).g3
  have gz3 := (ho).fz 3
  have g4 := (ho).g4
  have gz4 := (ho).fz 4
  have g5 := (ho).g5
  have gz5 := (ho).fz 5
  have g6 := (ho).g6
  have gz6 := (ho).fz 6
  have g7 := (ho).g7
  have gz7 := (ho).fz 7
  have g8 := (ho).g8
  have gz8 := (ho).fz 8
  have g9 := (ho).g9
  have gz9 := (ho).fz 9
  subst hN
  have HL : Hid (Calls Try.prog 67 #[.pointer (some ⟨f, 0, none⟩), .int .i64 (IntKind.i64.wrap (4 + (C.cap : Int) + (N : Int))), .int .i64 v] w.drew fun e w' => e = .returned (.tuple #[]) ∧ RDq w' d p q C (wr C l (4 + C.cap + N) v) (wrap64 (s + 1)) ∧ Turned [p, q] w.drew w') := by
    have := rostore_any w.drew d p q f C l s ⟨0, 22, t, b, (N : Int), v, won, false, en⟩ (4 + C.cap + N) v (by omega) hne h.drew (ho.turned (Turned.refl [] w).drew (by simp))
    rw [show IntKind.i64.wrap (4 + (C.cap : Int) + (N : Int)) = ((4 + C.cap + N : Nat) : Int) by rw [IntKind.wrap_i64]; omega]
    exact this
  generalize wr C l (4 + C.cap + N) v = l2 at *
  clear ho h
  go_enter Try.func40, Try.ntmps40
  go_wp2_with fail
  go_region_held3 (fun w' => w'.cell? ⟨f, 5, none⟩ = some (.int .i64 N) ∧ w'.cell? ⟨f, 6, none⟩ = some (.int .i64 v)) (go_keep)
    (first
      | (go_at_call 67; refine HL.out.mono ?_; rintro e w1 ⟨rfl, m1, t1⟩; have S1 := hide (S0.out.drew.acc m1 t1); have k3 := (S1.out.rb (r := ⟨0, 22, t, b, (N : Int), v, won, false, en⟩) rfl).g5; have k4 := (S1.out.rb (r := ⟨0, 22, t, b, (N : Int), v, won, false, en⟩) rfl).g6; clear m1 t1))
  clear HL S0
  clear g0 gz0 g1 gz1 g2 gz2 g3 gz3 g4 gz4 g5 gz5 g6 gz6 g7 gz7 g8 gz8 g9 gz9
  have g0 := (S1.out.rb (r := ⟨0, 22, t, b, (N : Int), v, won, false, en⟩) rfl).g0
  have gz0 := (S1.out.rb (r := ⟨0, 22, t, b, (N : Int), v, won, false, en⟩) rfl).fz 0
  have g1 := (S1.out.rb (r := ⟨0, 22, t, b, (N : Int), v, won, false, en⟩) rfl).g1
  have gz1 := (S1.out.rb (r := ⟨0, 22, t, b, (N : Int), v, won, false, en⟩) rfl).fz 1
  have g2 := (S1.out.rb (r := ⟨0, 22, t, b, (N : Int), v, won, false, en⟩) rfl).g2
  have gz2 := (S1.out.rb (r := ⟨0, 22, t, b, (N : Int), v, won, false, en⟩) rfl).fz 2
  have g3 := (S1.out.rb (r := ⟨0, 22, t, b, (N : Int), v, won, false, en⟩) rfl).g3
  have gz3 := (S1.out.rb (r := ⟨0, 22, t, b, (N : Int), v, won, false, en⟩) rfl).fz 3
  have g4 := (S1.out.rb (r := ⟨0, 22, t, b, (N : Int), v, won, false, en⟩) rfl).g4
  have gz4 := (S1.out.rb (r := ⟨0, 22, t, b, (N : Int), v, won, false, en⟩) rfl).fz 4
  have g5 := (S1.out.rb (r := ⟨0, 22, t, b, (N : Int), v, won, false, en⟩) rfl).g5
  have gz5 := (S1.out.rb (r := ⟨0, 22, t, b, (N : Int), v, won, false, en⟩) rfl).fz 5
  have g6 := (S1.out.rb (r := ⟨0, 22, t, b, (N : Int), v, won, false, en⟩) rfl).g6
  have gz6 := (S1.out.rb (r := ⟨0, 22, t, b, (N : Int), v, won, false, en⟩) rfl).fz 6
  have g7 := (S1.out.rb (r := ⟨0, 22, t, b, (N : Int), v, won, false, en⟩) rfl).g7
  have gz7 := (S1.out.rb (r := ⟨0, 22, t, b, (N : Int), v, won, false, en⟩) rfl).fz 7
  have g8 := (S1.out.rb (r := ⟨0, 22, t, b, (N : Int), v, won, false, en⟩) rfl).g8
  have gz8 := (S1.out.rb (r := ⟨0, 22, t, b, (N : Int), v, won, false, en⟩) rfl).fz 8
  have g9 := (S1.out.rb (r := ⟨0, 22, t, b, (N : Int), v, won, false, en⟩) rfl).g9
  have gz9 := (S1.out.rb (r := ⟨0, 22, t, b, (N : Int), v, won, false, en⟩) rfl).fz 9
  go_wp2_with fail
  first | refine bodyPost_end (results_none rfl _ _ _) rfl ?_ | refine bodyPost_ret (results_none rfl _ _ _) rfl ?_
  exact ⟨rfl, (S1.out.set 2 _).fin rfl⟩

set_option maxHeartbeats 1000000 in
set_option maxRecDepth 10000 in
theorem rs_stk22b (kk : Int) (hkk : kk ≠ 0) (N : Nat) (hN : n = (N : Int)) (hNo : 0 < N ∧ N ≤ C.over) (hne : f ≠ d ∧ f ≠ p ∧ f ≠ q) (h : RDq w d p q C l s) (ho : RB w f d ⟨kk, 22, t, b, n, v, won, false, en⟩) :
    Calls Try.prog 40 #[.pointer (some ⟨f, 0, none⟩)] w fun e w' => e = .returned (.tuple #[]) ∧ RDq w' d p q C l (wrap64 (s + 1)) ∧ RB w' f d ⟨kk, 23, t, b, n, (rd C l (4 + C.cap + (N - 1))), won, false, en⟩ ∧ Turned [p, q, f] w w' := by
  have S0 := hide (RS.of h ho hne)
  have hC := h.cap
  have hO := h.over
  have c2 := h.c2
  have g0 := (ho).g0
  have gz0 := (ho).fz 0
  have g1 := (ho).g1
  have gz1 := (ho).fz 1
  have g2 := (ho).g2
  have gz2 := (ho).fz 2
  have g3 := (ho).g3
  have gz3 := (ho).fz 3
  have g4 := (ho).g4
  have gz4 := (ho).fz 4
  have g5 := (ho).g5
  have gz5 := (ho).fz 5
  have g6 := (ho).g6
  have gz6 := (ho).fz 6
  have g7 := (ho).g7
  have gz7 := (ho).fz 7
  have g8 := (ho).g8
  have gz8 := (ho).fz 8
  have g9 := (ho).g9
  have gz9 := (ho).fz 9
  subst hN
  have HL : Hid (Calls Try.prog 66 #[.pointer (some ⟨f, 0, none⟩), .int .i64 (4 + (C.cap : Int) + (N : Int) - 1)] w fun e w' => e = .returned (.int .i64 (rd C l (4 + C.cap + (N - 1)))) ∧ RDq w' d p q C l (wrap64 (s + 1)) ∧ Turned [p, q] w w') := by
    have := roload_any w d p q f C l s ⟨kk, 22, t, b, (N : Int), v, won, false, en⟩ (4 + C.cap + (N - 1)) (by omega) hne h ho
    rw [show 4 + (C.cap : Int) + (N : Int) - 1 = ((4 + C.cap + (N - 1) : Nat) : Int) by omega]
    exact this
  generalize rd C l (4 + C.cap + (N - 1)) = y at *
  clear ho h
  go_enter Try.func40, Try.ntmps40
  go_wp2_with fail
  refine HL.out.mono ?_
  rintro e w1 ⟨rfl, k1, t1⟩
  have S1 := hide (S0.out.acc k1 t1)
  clear k1 t1 HL S0
  clear g0 gz0 g1 gz1 g2 gz2 g3 gz3 g4 gz4 g5 gz5 g6 gz6 g7 gz7 g8 gz8 g9 gz9
  have g0 := (S1.out.rb (r := ⟨kk, 22, t, b, (N : Int), v, won, false, en⟩) rfl).g0
  have gz0 := (S1.out.rb (r := ⟨kk, 22, t, b, (N : Int), v, won, false, en⟩) rfl).fz 0
  have g1 := (S1.out.rb (r := ⟨kk, 22, t, b, (N : Int), v, won, false, en⟩) rfl).g1
  have gz1 := (S1.out.rb (r := ⟨kk, 22, t, b, (N : Int), v, won, false, en⟩) rfl).fz 1
  have g2 := (S1.out.rb (r := ⟨kk, 22, t, b, (N : Int), v, won, false, en⟩) rfl).g2
  have gz2 := (S1.out.rb (r := ⟨kk, 22, t, b, (N : Int), v, won, false, en⟩) rfl).fz 2
  have g3 := (S1.out.rb (r := ⟨kk, 22, t, b, (N : Int), v, won, false, en⟩) rfl).g3
  have gz3 := (S1.out.rb (r := ⟨kk, 22, t, b, (N : Int), v, won, false, en⟩) rfl).fz 3
  have g4 := (S1.out.rb (r := ⟨kk, 22, t, b, (N : Int), v, won, false, en⟩) rfl).g4
  have gz4 := (S1.out.rb (r := ⟨kk, 22, t, b, (N : Int), v, won, false, en⟩) rfl).fz 4
  have g5 := (S1.out.rb (r := ⟨kk, 22, t, b, (N : Int), v, won, false, en⟩) rfl).g5
  have gz5 := (S1.out.rb (r := ⟨kk, 22, t, b, (N : Int), v, won, false, en⟩) rfl).fz 5
  have g6 := (S1.out.rb (r := ⟨kk, 22, t, b, (N : Int), v, won, false, en⟩) rfl).g6
  have gz6 := (S1.out.rb (r := ⟨kk, 22, t, b, (N : Int), v, won, false, en⟩) rfl).fz 6
  have g7 := (S1.out.rb (r := ⟨kk, 22, t, b, (N : Int), v, won, false, en⟩) rfl).g7
  have gz7 := (S1.out.rb (r := ⟨kk, 22, t, b, (N : Int), v, won, false, en⟩) rfl).fz 7
  have g8 := (S1.out.rb (r := ⟨kk, 22, t, b, (N : Int), v, won, false, en⟩) rfl).g8
  have gz8 := (S1.out.rb (r := ⟨kk, 22, t, b, (N : Int), v, won, false, en⟩) rfl).fz 8
  have g9 := (S1.out.rb (r := ⟨kk, 22, t, b, (N : Int), v, won, false, en⟩) rfl).g9
  have gz9 := (S1.out.rb (r := ⟨kk, 22, t, b, (N : Int), v, won, false, en⟩) rfl).fz 9
  go_wp2_with fail
  first | refine bodyPost_end (results_none rfl _ _ _) rfl ?_ | refine bodyPost_ret (results_none rfl _ _ _) rfl ?_
  exact ⟨rfl, ((S1.out.set 6 _).set 2 _).fin rfl⟩

end
end Go.Proofs.Ytdhfggdmlhgdoaa


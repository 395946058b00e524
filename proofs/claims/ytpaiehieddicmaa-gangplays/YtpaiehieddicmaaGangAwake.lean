/-
  awake tells true.
-/
import Derived.Test.YtpaiehieddicmaaGangP
import Derived.Test.YtpaiehieddicmaaGangIter
import Derived.Test.YtpaiehieddicmaaGangTaken
import Derived.Test.YtpaiehieddicmaaGangReset
namespace Go.Proofs.Ytpaiehieddicmaa
open Go.RowKit
set_option linter.unusedVariables false

/-- A share newer than a law's first world. -/
def Sn (w0 w : World) (a p q : Nat) (l : List Int) (s : Int) (k : Nat) (pt : Int) : Prop := Sh w a p q l s k pt ∧ Turned [] w0 w ∧ w0.heap.size ≤ a ∧ w0.heap.size ≤ p ∧ w0.heap.size ≤ q
section
variable {w0 w w' : World} {a p q : Nat} {l : List Int} {s : Int} {k : Nat} {pt : Int}
theorem Sn.turn (h : Sn w0 w a p q l s k pt) : Turned [] w0 w := h.2.1
theorem Sn.next (h : Sn w0 w a p q l s k pt) (ht : Turned [] w w') : Sn w0 w' a p q l s k pt := ⟨h.1.turned0 ht, h.2.1.trans ht, h.2.2⟩
theorem sn_new (w0 w : World) (ht : Turned [] w0 w) (m k : Nat) (pt : Int) (hk : k < m) (hm : m ≤ 65536) (hp : 0 ≤ pt) (w1 : World) (hM : Mem w1 (w.heap.size + 1) w.heap.size (List.replicate m 0) 0) (ht1 : Turned [] w w1) :
    Calls Try.prog 18 #[ptr (w.heap.size + 1), .int .i64 (k : Int), .int .i64 pt] w1 fun e w' => e = .returned (.tuple #[ptr w1.heap.size, .int .i64 0]) ∧ Sn w0 w' w1.heap.size (w.heap.size + 1) w.heap.size (List.replicate m 0) 0 k pt := by
  refine (snew_ok w1 (w.heap.size + 1) w.heap.size (List.replicate m 0) 0 k pt hM (by simpa using hk) (by simpa using hm) hp).mono ?_
  rintro e w' ⟨rfl, h1, h2⟩
  rw [show (List.replicate m (0 : Int)).set k 0 = List.replicate m 0 from by
    apply List.ext_getElem?
    intro i
    rw [List.getElem?_set]
    split
    · rename_i e; subst e; simp [hk]
    · rfl] at h1
  have := ht.size
  have := ht1.size
  exact ⟨rfl, h1, (ht.trans ht1).trans_new h2 (fun i hi => by simp at hi; rcases hi with rfl | rfl <;> exact .inr (by omega)), by omega, by omega, by omega⟩
theorem sn_next (h : Sn w0 w a p q l s k pt) (x : Int) (hx : l[k]? = some x) (hr : 0 ≤ x ∧ x < 1000000000) (hs : 0 ≤ s ∧ s < 1000000000) :
    Calls Try.prog 20 #[ptr a] w fun e w' => e = .returned (.tuple #[.int .i64 (if x < pt then x else 0), .bool (decide (x < pt))]) ∧ Sn w0 w' a p q (l.set k (x + 1)) (s + 1) k pt ∧ Turned [p, q] w w' := by
  refine (snext_any w a p q l s k pt x h.1 hx hr hs).mono ?_
  rintro e w' ⟨rfl, h1, h2⟩
  exact ⟨rfl, ⟨h1, h.2.1.trans_new h2 (fun i hi => by simp at hi; rcases hi with rfl | rfl; exact .inr h.2.2.2.1; exact .inr h.2.2.2.2), h.2.2⟩, h2⟩
theorem sn_taken (h : Sn w0 w a p q l s k pt) (x : Int) (hx : l[k]? = some x) (hr : 0 ≤ x ∧ x < 1000000000) (hp : 0 ≤ pt) :
    Calls Try.prog 21 #[ptr a] w fun e w' => e = .returned (.int .i64 (min x pt)) ∧ Sn w0 w' a p q l s k pt ∧ Turned [] w w' := by
  refine (staken_any w a p q l s k pt x h.1 hx hr hp).mono ?_
  rintro e w' ⟨rfl, h1, h2⟩
  exact ⟨rfl, ⟨h1, h.2.1.trans h2, h.2.2⟩, h2⟩
theorem sn_reset (h : Sn w0 w a p q l s k pt) (ao : Option Addr) (len cap : Nat) (rs : List Int) (hr : IRd w ao len rs) (hlen : len ≤ 9223372036854775807) (hb : anyB rs = false) :
    Calls Try.prog 22 #[ptr a, .slice ao len cap] w fun e w' => e = .returned (.tuple #[]) ∧ Sn w0 w' a p q (l.set k 0) s k (resP pt rs) ∧ Turned [a, p, q] w w' := by
  refine (sreset_any w a p q l s k pt h.1 ao len cap rs hr hlen hb).mono ?_
  rintro e w' ⟨rfl, h1, h2⟩
  exact ⟨rfl, ⟨h1, h.2.1.trans_new h2 (fun i hi => by simp at hi; rcases hi with rfl | rfl | rfl; exact .inr h.2.2.1; exact .inr h.2.2.2.1; exact .inr h.2.2.2.2), h.2.2⟩, h2⟩
end

theorem ird_one (w : World) (x : Int) : IRd (w.alloc (.cells #[.int .i64 x] 3)) (some ⟨w.heap.size, 0, none⟩) 1 [x] :=
  ⟨rfl, fun i y hy => ⟨w.heap.size, 0, rfl, by
    have hi : i = 0 := by
      have := (List.getElem?_eq_some_iff.1 hy).1
      simp at this
      exact this
    subst hi
    simp at hy
    subst hy
    rw [cell_of_heap (heap_alloc_new w _)]; rfl⟩⟩

set_option maxRecDepth 100000 in
theorem awake_any (w : World) : Calls Try.prog 9 #[] w fun e w' => e = .returned (.bool true) ∧ Turned [] w w' := by
  have HN := hide (gn_new w w (Turned.refl _ _) 2 (by omega) (by omega))
  unfold ptr at HN
  go_enter Try.func9, Try.ntmps9
  go_wp2_with fail
  refine HN.out.mono ?_
  rintro e w1 ⟨rfl, h1, t1⟩
  generalize w.heap.size + 1 = p at *
  generalize w.heap.size = q at *
  have HA := hide (gn_arrive h1 1 (by omega))
  unfold ptr at HA
  clear h1 t1 HN
  go_wp2_with fail
  refine HA.out.mono ?_
  rintro e w2 ⟨b, er, ws, came, ph, rfl, h2, -, ha⟩
  obtain ⟨rfl, rfl, rfl, rfl, hs⟩ : b = false ∧ er = 0 ∧ came = 1 ∧ ph = 0 ∧ ∀ y, y ∈ ws.take 1 ↔ y = 1 := by
    cases ha with
    | task h => exact absurd (show (0 : Int) ≤ 1 ∧ (1 : Int) < (2 : Nat) by omega) h
    | state h hm => simp at hm
    | more h hm hc hs => exact ⟨rfl, rfl, rfl, rfl, by simpa using hs⟩
    | last h hm hc hs => omega
  have HA2 := hide (gn_arrive h2 1 (by omega))
  have HS := hide hs
  unfold ptr at HA2
  clear h2 HA ha hs
  go_wp2_with fail
  refine HA2.out.mono ?_
  rintro e w3 ⟨b, er, ws2, came, ph, rfl, h3, -, ha⟩
  have hm1 : (1 : Int) ∈ ws.take 1 := by rw [HS.out]
  obtain ⟨rfl, rfl, rfl, rfl, rfl⟩ : b = false ∧ er = 16 ∧ ws2 = ws ∧ came = 1 ∧ ph = 0 := by
    cases ha with
    | task h => exact absurd (show (0 : Int) ≤ 1 ∧ (1 : Int) < (2 : Nat) by omega) h
    | state h hm => exact ⟨rfl, rfl, rfl, rfl, rfl⟩
    | more h hm hc hs => exact absurd hm1 hm
    | last h hm hc hs => exact absurd hm1 hm
  have HA3 := hide (ggoes_any w3 p q _ _ _ 0 h3.1)
  have hd : (0 : Int) ∈ ws2.drop 1 := by rw [h3.2.1.drop, HS.out]; omega
  rw [decide_eq_true hd] at HA3
  have H3 := hide h3
  unfold ptr at HA3
  clear h3 HA2 ha hm1 hd
  go_wp2_with fail
  refine HA3.out.mono ?_
  rintro e w4 ⟨rfl, n4, hw4⟩
  have h4 : Gn w w4 p q 2 ws2 1 0 := by rw [hw4]; exact H3.out.next ((Turned.refl _ _).drewN n4)
  clear hw4 H3 HA3
  have HA4 := hide (gn_arrive h4 0 (by omega))
  unfold ptr at HA4
  clear h4
  go_wp2_with fail
  refine HA4.out.mono ?_
  rintro e w5 ⟨b, er, ws, came, ph, rfl, h5, -, ha⟩
  obtain ⟨rfl, rfl, rfl, rfl⟩ : b = true ∧ er = 0 ∧ came = 0 ∧ ph = 1 := by
    cases ha with
    | task h => exact absurd (show (0 : Int) ≤ 0 ∧ (0 : Int) < (2 : Nat) by omega) h
    | state h hm => rw [HS.out] at hm; omega
    | more h hm hc hs => omega
    | last h hm hc hs => exact ⟨rfl, rfl, rfl, rfl⟩
  have H5 := hide h5
  have HC := hide (new_any 1 w5)
  rw [show (min (max (1 : Int) 0) 65536).toNat = 1 by decide] at HC
  clear h5 HA4 ha HS
  go_wp2_with fail
  refine HC.out.mono ?_
  rintro e w6 ⟨rfl, hM, t6, -⟩
  have HC2 := hide (sn_new w5 w5 (Turned.refl _ _) 1 0 2 (by omega) (by omega) (by omega) w6 hM t6)
  unfold ptr at HC2
  clear hM t6 HC
  generalize w5.heap.size + 1 = sp at *
  generalize w5.heap.size = sq at *
  go_wp2_with fail
  refine HC2.out.mono ?_
  rintro e w7 ⟨rfl, h7⟩
  generalize w6.heap.size = a at *
  have HX := hide (sn_next h7 0 rfl (by omega) (by omega))
  unfold ptr at HX
  rw [if_pos (by omega), decide_eq_true (by omega)] at HX
  clear h7 HC2
  go_wp2_with fail
  refine HX.out.mono ?_
  rintro e w8 ⟨rfl, h8, -⟩
  have HX2 := hide (sn_next h8 1 rfl (by omega) (by omega))
  unfold ptr at HX2
  rw [if_pos (by omega), decide_eq_true (by omega)] at HX2
  clear h8 HX
  go_wp2_with fail
  refine HX2.out.mono ?_
  rintro e w9 ⟨rfl, h9, -⟩
  have HX3 := hide (sn_next h9 2 rfl (by omega) (by omega))
  unfold ptr at HX3
  rw [if_neg (by omega), decide_eq_false (by omega)] at HX3
  clear h9 HX2
  go_wp2_with fail
  refine HX3.out.mono ?_
  rintro e w10 ⟨rfl, h10, -⟩
  have HX4 := hide (sn_reset (h10.next ((Turned.refl [] w10).alloc (.cells #[.int .i64 1] 3))) _ 1 1 [1] (ird_one w10 1) (by omega) (by decide))
  unfold ptr at HX4
  rw [show resP 2 [1] = 1 by decide] at HX4
  clear h10 HX3
  go_wp2_with fail
  refine HX4.out.mono ?_
  rintro e w11 ⟨rfl, h11, -⟩
  have HX5 := hide (sn_next h11 0 rfl (by omega) (by omega))
  unfold ptr at HX5
  rw [if_pos (by omega), decide_eq_true (by omega)] at HX5
  clear h11 HX4
  go_wp2_with fail
  refine HX5.out.mono ?_
  rintro e w12 ⟨rfl, h12, -⟩
  have H12 := hide h12
  have G12 := hide (H5.out.next h12.turn)
  have HP := hide (gphase_any w12 p q _ _ _ G12.out.1)
  unfold ptr at HP
  clear h12 HX5 H5
  go_wp2_with fail
  refine HP.out.mono ?_
  rintro e w13 ⟨rfl, rfl⟩
  have HG := hide (ggoes_any w13 p q _ _ _ 1 G12.out.1)
  have hd : (1 : Int) ∈ ws.drop 0 := by rw [G12.out.2.1.drop]; simp
  rw [decide_eq_true hd] at HG
  unfold ptr at HG
  clear HP hd
  go_wp2_with fail
  refine HG.out.mono ?_
  rintro e w14 ⟨rfl, n14, hw14⟩
  have T14 := hide (show Turned [] w13 w14 by rw [hw14]; exact (Turned.refl _ _).drewN n14)
  clear hw14 HG
  have HT := hide (sn_taken (H12.out.next T14.out) 1 rfl (by omega) (by omega))
  unfold ptr at HT
  rw [show min (1 : Int) 1 = 1 by decide] at HT
  go_wp2_with fail
  refine HT.out.mono ?_
  rintro e w15 ⟨rfl, -, t15⟩
  have T15 := hide (G12.out.turn.trans (T14.out.trans t15))
  clear t15 HT H12 G12 T14
  go_wp2_with fail
  go_ret
  exact ⟨rfl, T15.out⟩
end Go.Proofs.Ytpaiehieddicmaa

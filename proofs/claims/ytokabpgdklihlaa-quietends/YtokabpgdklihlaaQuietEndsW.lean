/-
  QuietEnds: the law's walk, by the theorem of the end without memory ('EndsP').
-/
import Derived.Test.YtokabpgdklihlaaQuietAwake
import Derived.Test.YtokabpgdklihlaaQuietMk
import Derived.Test.YtokabpgdklihlaaQuietPure
import Derived.Deep.RegionHeld3
import Derived.Deep.AppendLies
namespace Go.Proofs.Ytokabpgdklihlaa
open Go.ChangeShapes Go.WideShapes Go.ChangeAt Go.RowKit
set_option linter.unusedVariables false
set_option linter.unusedSimpArgs false

theorem of_wanted {c : Prop} [Decidable c] {A B : Prop} (h : c) (hA : A) : if c then A else B := by rw [if_pos h]; exact hA
theorem Try.infoWk : (Try.prog.info? 39).map (fun i => (i.zero, i.size, i.bytes)) = some (some (.pointer none), 1, 8) := by kernel_rfl

def updn (f : Nat → Nat) (m r : Nat) : Nat → Nat := fun i => if i = m then r else f i
theorem handsG_upd (n : Nat) (vs : Nat → Nat) (m r : Nat) : ∀ j, j ≤ m → handsG n (updn vs m r) j = handsG n vs j
  | 0, _ => rfl
  | j + 1, h => by
    show dealG n (handsG n (updn vs m r) j) j _ = dealG n (handsG n vs j) j _
    rw [handsG_upd n vs m r j (by omega)]
    unfold updn
    rw [if_neg (by omega)]
theorem handsG_next (n : Nat) (vs : Nat → Nat) (m r : Nat) : handsG n (updn vs m r) (m + 1) = fun k => if k = m % n then handsG n vs m k ++ [(r : Int)] else handsG n vs m k := by
  show dealG n (handsG n (updn vs m r) m) m _ = _
  rw [handsG_upd n vs m r m (Nat.le_refl _)]
  unfold dealG updn
  rw [if_pos rfl]
theorem handsG_len (n : Nat) (vs : Nat → Nat) : ∀ m k, (handsG n vs m k).length ≤ m
  | 0, k => Nat.le_refl _
  | m + 1, k => by
    have h := handsG_len n vs m k
    show (dealG n (handsG n vs m) m _ k).length ≤ m + 1
    unfold dealG
    split
    · rw [List.length_append]
      simp
      exact h
    · omega
theorem want_wrap (wt : Int) (r : Nat) (hr : r < 5) (h : 0 ≤ wt ∧ wt ≤ 1000) : wrap64 (wrap64 (wt + wrap64 (2 * 2 ^ r)) - 1) = wt + (2 ^ (r + 1) - 1) := by
  have h2 : (2 : Int) * 2 ^ r = 2 ^ (r + 1) := by rw [Int.pow_succ, Int.mul_comm]
  rw [h2]
  have h3 : (2 : Int) ^ (r + 1) ≤ 32 ∧ 0 ≤ (2 : Int) ^ (r + 1) := by
    obtain rfl | rfl | rfl | rfl | rfl : r = 0 ∨ r = 1 ∨ r = 2 ∨ r = 3 ∨ r = 4 := by omega
    all_goals decide
  generalize (2 : Int) ^ (r + 1) = y at *
  rw [w64 y (by omega), w64 (wt + y) (by omega), w64 _ (by omega)]
  omega
theorem wantG_upd (vs : Nat → Nat) (m r : Nat) : ∀ j, j ≤ m → wantG (updn vs m r) j = wantG vs j
  | 0, _ => rfl
  | j + 1, h => by
    show wantG (updn vs m r) j + _ = wantG vs j + _
    rw [wantG_upd vs m r j (by omega)]
    unfold updn
    rw [if_neg (by omega)]
theorem wantG_next (vs : Nat → Nat) (m r : Nat) : wantG (updn vs m r) (m + 1) = wantG vs m + (2 ^ (r + 1) - 1) := by
  show wantG (updn vs m r) m + _ = _
  rw [wantG_upd vs m r m (Nat.le_refl _)]
  unfold updn
  rw [if_pos rfl]
theorem wantG_le (vs : Nat → Nat) (h : ∀ i, vs i ≤ 4) : ∀ m, 0 ≤ wantG vs m ∧ wantG vs m ≤ 31 * (m : Int)
  | 0 => ⟨Int.le_refl _, Int.le_refl _⟩
  | m + 1 => by
    have h1 := wantG_le vs h m
    have h2 : (2 : Int) ^ (vs m + 1) - 1 ≤ 31 ∧ 0 ≤ (2 : Int) ^ (vs m + 1) - 1 := by
      have := h m
      generalize vs m = v at this
      obtain rfl | rfl | rfl | rfl | rfl : v = 0 ∨ v = 1 ∨ v = 2 ∨ v = 3 ∨ v = 4 := by omega
      all_goals decide
    show 0 ≤ wantG vs m + _ ∧ wantG vs m + _ ≤ _
    omega
theorem pickG_upd (n : Nat) (pk : Nat → Nat) (S : GS) (m r : Nat) : ∀ j, j ≤ m → pickG n (updn pk m r) S j = pickG n pk S j
  | 0, _ => rfl
  | j + 1, h => by
    show stepG (QE n) n (pickG n (updn pk m r) S j) _ = stepG (QE n) n (pickG n pk S j) _
    rw [pickG_upd n pk S m r j (by omega)]
    unfold updn
    rw [if_neg (by omega)]
theorem pickG_next (n : Nat) (pk : Nat → Nat) (S : GS) (m r : Nat) : pickG n (updn pk m r) S (m + 1) = stepG (QE n) n (pickG n pk S m) r := by
  show stepG (QE n) n (pickG n (updn pk m r) S m) _ = _
  rw [pickG_upd n pk S m r m (Nat.le_refl _)]
  unfold updn
  rw [if_pos rfl]

theorem turnG_next (n : Nat) (S : GS) (m : Nat) : turnG n S (m + 1) = stepG (QE n) n (turnG n S m) (m % n) := rfl
attribute [local irreducible] turnG pickG

theorem pick_step {w wr : World} {C gw gd a p q k j r : Nat} {ws ds : List Nat} {pk : Nat → Nat} {S0 : GS} (hl : ws.length = k ∧ ds.length = k) (hr : r < k) (hg : Gang w wr C gw gd a p q ws ds (QE k) (pickG k pk S0 j)) (hm : MayG (QE k) k (pickG k pk S0 j) r) :
    Calls Try.prog 11 #[.pointer (some ⟨C, 0, none⟩), .int .i64 r] wr fun e w' => e = .returned (.bool true) ∧ Gang w w' C gw gd a p q ws ds (QE k) (pickG k (updn pk j r) S0 (j + 1)) := by
  have h := cstep_any w wr C gw gd a p q r ws ds (QE k) (pickG k pk S0 j) hg (by omega) (by rw [hl.2]; exact hm)
  rw [hl.2] at h
  rw [pickG_next k pk S0 j r]
  exact h
theorem turnG_step {w wr : World} {C gw gd a p q k i : Nat} {ws ds : List Nat} {S1 : GS} (hl : ws.length = k ∧ ds.length = k) (hk : 0 < k) (hg : Gang w wr C gw gd a p q ws ds (QE k) (turnG k S1 i)) (hm : MayG (QE k) k (turnG k S1 i) (i % k)) :
    Calls Try.prog 11 #[.pointer (some ⟨C, 0, none⟩), .int .i64 ((i % k : Nat) : Int)] wr fun e w' => e = .returned (.bool true) ∧ Gang w w' C gw gd a p q ws ds (QE k) (turnG k S1 (i + 1)) := by
  have h := cstep_any w wr C gw gd a p q (i % k) ws ds (QE k) (turnG k S1 i) hg (by have := Nat.mod_lt i hk; omega) (by rw [hl.2]; exact hm)
  rw [hl.2] at h
  rw [turnG_next k S1 i]
  exact h
theorem pick_may {k j r : Nat} {pk : Nat → Nat} {S0 : GS} (h : ∀ i, i < j + 1 → MayG (QE k) k (pickG k (updn pk j r) S0 i) (updn pk j r i)) : MayG (QE k) k (pickG k pk S0 j) r := by
  have hmay := h j (by omega)
  rw [pickG_upd k pk S0 j r j (Nat.le_refl _)] at hmay
  have e7 : updn pk j r j = r := by unfold updn; rw [if_pos rfl]
  rw [e7] at hmay
  exact hmay

theorem mk_new {w0 w : World} {a p q n : Nat} (t : Turned [] w0 w) (hs : Sh w a p q [] ⟨0, n, []⟩ zeroL 0) (hl : w0.heap.size ≤ p ∧ w0.heap.size ≤ q) : Mk w0 (w.alloc (.cells #[.slice none 0 0, .slice none 0 0, .pointer (some ⟨a, 0, none⟩), .int .i64 0] 35)) w.heap.size a p q w.heap.size n [] [] [] [] (.slice none 0 0) (.slice none 0 0) (.slice none 0 0) (.slice none 0 0) (csE 0) := by
  have t2 : Turned [] w (w.alloc (.cells #[.slice none 0 0, .slice none 0 0, .pointer (some ⟨a, 0, none⟩), .int .i64 0] 35)) := (Turned.refl _ _).alloc _
  exact ⟨t.trans t2, heap_alloc_new _ _, hs.turned t2 (by simp) (by simp) (by simp) (by simp), World.ownsRow_nil _ _ _ _, World.ownsRow_nil _ _ _ _, fun i b hb => by simp at hb, fun i j b hb => by simp at hb, t.size, hl.1, hl.2, t.size, t2.size⟩

theorem one_new (w : World) (x : Value) (t : TypeId) (b : Nat) (hb : w.heap.size = b) : ∀ j u, [x][j]? = some u → (w.alloc (.cells #[x] t)).cell? ((⟨b, 0, none⟩ : Addr).add j) = some u := by
  subst hb
  exact cell_one_new _ _ _

set_option maxHeartbeats 8000000 in
set_option maxRecDepth 100000 in
theorem quietEnds_walk (x : Int) (ai : Option Addr) (li ci : Nat) (zi : List Int) (ap : Option Addr) (lp cp : Nat) (zp : List Int) (w : World) (hx : (Lit.int .i64 x).wf = true) (hzi : IsRow .i64 w ai li ci zi) (hzp : IsRow .i64 w ap lp cp zp) :
    Calls Try.prog 3 #[.int .i64 x, .slice ai li ci, .slice ap lp cp] w fun e w' => e = .returned (.bool true) ∧ Turned [] w w' := by
  have HE : Hid EndsP := hide ends_p
  obtain ⟨hri, hli, -⟩ := rr_of hzi
  obtain ⟨hrp, hlp, -⟩ := rr_of hzp
  have HRI := hide hri
  have HRP := hide hrp
  have HAw := hide (awake_any w)
  have HPk := hide (fun w' => lpick_any x 4 w' hx (by omega))
  have und : Try.prog.underlying 33 = some (.slice 36) := by kernel_rfl
  have undw : Try.prog.underlying 32 = some (.slice 39) := by kernel_rfl
  have und2 : Try.prog.underlying 40 = some (.slice 2) := by kernel_rfl
  clear hri hrp hzi hzp hx
  go_enter Try.func3, Try.ntmps3
  go_wp2_with fail
  refine HAw.out.mono ?_
  rintro e w0 ⟨rfl, t0⟩
  have T0 := hide t0
  clear t0 HAw
  go_wp2_with fail
  refine (HPk.out _).mono ?_
  rintro e w1 ⟨⟨r, rfl, hr⟩, hw⟩
  rw [hw]
  clear hw w1 HPk
  have HNew := hide (new_any 400 w0)
  go_wp2_with fail
  refine HNew.out.mono ?_
  rintro e w1 ⟨rfl, h1, t1, -⟩
  obtain ⟨n, hn⟩ : ∃ n : Nat, (1 + (r : Int)) = (n : Int) := ⟨1 + r, by omega⟩
  rw [hn]
  have hn4 : 1 ≤ n ∧ n ≤ 4 := by omega
  clear hn hr
  obtain ⟨p, hp⟩ : ∃ p, p = w0.heap.size + 1 := ⟨_, rfl⟩
  obtain ⟨q, hq⟩ : ∃ q, q = w0.heap.size := ⟨_, rfl⟩
  rw [← hp, ← hq] at h1
  rw [← hp]
  have HPQ := hide (show w.heap.size ≤ p ∧ w.heap.size ≤ q by have := T0.out.size; omega)
  have T1 := hide (T0.out.trans t1)
  have HQ := hide (qnew_ok w1 p q zeroL 0 0 n (by simp [zeroL]) (by simp [zeroL]) (by omega) h1)
  clear h1 t1 hp hq HNew T0
  go_wp2_with fail
  refine HQ.out.mono ?_
  rintro e w2 ⟨rfl, h2, t2, -⟩
  have HM := hide (mk_new (T1.out.trans t2) h2 HPQ.out)
  generalize w1.heap.size = a at *
  clear h2 t2 HQ T1
  obtain ⟨i0, hi, hi0⟩ := Option.map_eq_some_iff.1 Try.infoDq
  simp only [Prod.mk.injEq] at hi0
  obtain ⟨hz0, hz1, hz2⟩ := hi0
  obtain ⟨i1, hi1, hi10⟩ := Option.map_eq_some_iff.1 Try.infoWk
  simp only [Prod.mk.injEq] at hi10
  obtain ⟨hy0, hy1, hy2⟩ := hi10
  go_wp2_with fail
  obtain ⟨wc, hwc⟩ : ∃ wc, wc = w2.alloc (.cells #[.slice none 0 0, .slice none 0 0, .pointer (some ⟨a, 0, none⟩), .int .i64 0] 35) := ⟨_, rfl⟩
  rw [← hwc] at HM ⊢
  clear hwc
  generalize w2.heap.size = C at *
  go_loopg [14] 5 (fun gg s14 wr => ∃ (k : Nat) (ws ds : List Nat) (vw vd : Value), s14 = .int .i64 (k : Int) ∧ k ≤ n ∧ n - k ≤ gg ∧ Aside (ws.length = k ∧ ds.length = k) ∧ Aside (Mk w wr C a p q C n ws ws ds ds vw vd vw vd (csE k)))
  case atStart => exact ⟨0, [], [], _, _, rfl, by omega, by omega, ⟨rfl, rfl⟩, HM.out⟩
  case round =>
    clear HM
    obtain ⟨k, ws, ds, vw, vd, rfl, hk, hgg, hlen, hmk⟩ := hrel
    by_cases hkn : k < n
    · have e1 : (k : Int) < (n : Int) := by omega
      have HD := hide (by have h := dnew_ok wr p q ⟨1 + 90 * k, 2, 80⟩ zeroL 0 (by simp) (by simp) (by simp [zeroL]; omega) (by simp [zeroL]) hmk.out.sh.mem; exact h)
      rw [show (((⟨1 + 90 * k, 2, 80⟩ : Cfg).base : Nat) : Int) = 1 + 90 * (k : Int) by simp] at HD
      go_wp2_with fail
      refine HD.out.mono ?_
      rintro e w3 ⟨rfl, h3, t3, -⟩
      have M3 := hide (hmk.out.deq h3 t3 (by have := hlen.out; omega))
      generalize wr.heap.size = d at *
      clear h3 t3 HD hmk
      have c1 := M3.out.c1
      go_wp2_with (first
        | (at_builtin; (refine wpList_append_own _ rfl _ _ 33 rfl C 36 i0 _ 1 8 und hi hz0 hz1 hz2 rfl (by decide) _ _ _ rfl (World.ownsRow.alloc M3.out.rd_ _) ⟨w3.heap.size, 0, none⟩ 1 1 [pd d] rfl rfl (cell_one_new _ _ _) (by intro u hu; simp at hu; subst hu; rfl) (by have := hlen.out; unfold maxLen; omega) (by have := hlen.out; omega) (by have := M3.out.lo; simp; omega) ?_); intro v5 w5 hown5 hgrow5 hnil5; obtain ⟨-, ao5, cp5, hv5, -⟩ := ownsRow_any hown5; subst hv5; have M5 := hide ((M3.out.turned0 ((Turned.refl [] w3).alloc _)).appd hown5 hgrow5); have y1 := M5.out.c1; have y0 := M5.out.c0; have z1 := M5.out.frozen 1; have S5 := hide (M5.out.stored 1 (.slice ao5 (ds.length + 1) cp5) (hw' := vw) (hd' := .slice ao5 (ds.length + 1) cp5) rfl); clear hown5 hgrow5 hnil5 M3 c1 M5)
        | (at_builtin; have M7 := hide (S5.out.work (nb := w5.heap.size) (by simp)); (refine wpList_append_own _ rfl _ _ 32 rfl C 39 i1 _ 1 8 undw hi1 hy0 hy1 hy2 rfl (by decide) _ _ _ rfl (World.ownsRow.alloc M7.out.rw_ _) ⟨w5.heap.size + 1, 0, none⟩ 1 1 [pd w5.heap.size] rfl rfl (one_new _ _ _ _ (by simp)) (by intro u hu; simp at hu; subst hu; rfl) (by have := hlen.out; unfold maxLen; omega) (by have := hlen.out; omega) (by have := M7.out.lo; simp at *; omega) ?_); intro v8 w8 hown8 hgrow8 hnil8; obtain ⟨-, ao8, cp8, hv8, -⟩ := ownsRow_any hown8; subst hv8; have M8 := hide ((M7.out.turned0 ((Turned.refl [] _).alloc _)).appw hown8 hgrow8); have y8 := M8.out.c0; have z8 := M8.out.frozen 0; have S8 := hide (M8.out.stored 0 (.slice ao8 (ws.length + 1) cp8) (hw' := .slice ao8 (ws.length + 1) cp8) (hd' := .slice ao5 (ds.length + 1) cp5) rfl); clear hown8 hgrow8 hnil8 M7 S5 y0 y1 z1 M8))
      go_roundg (n - (k + 1))
      case measure => omega
      case rel => exact ⟨k + 1, ws ++ [w5.heap.size], ds ++ [d], _, _, by go_num, by omega, Nat.le_refl _, (show (ws ++ [w5.heap.size]).length = k + 1 ∧ (ds ++ [d]).length = k + 1 by have := hlen.out; simp; omega), (show Mk _ _ _ _ _ _ _ _ _ _ _ _ _ _ _ _ (csE (k + 1)) by rw [csE_succ]; exact S8.out)⟩
    · have hkn' : k = n := by omega
      subst hkn'
      have e1 : ¬ ((k : Int) < (k : Int)) := by omega
      obtain ⟨gw, gd, hdl⟩ := hmk.out.dl hlen.out.1 hlen.out.2 hn4
      have HDl := hide hdl
      have HLen := hide hlen.out
      clear hmk hlen hdl hk hgg hkn hi hz0 hz1 hz2 hi1 hy0 hy1 hy2 und undw
      obtain ⟨i2, hi2, hi20⟩ := Option.map_eq_some_iff.1 Try.info2q
      simp only [Prod.mk.injEq] at hi20
      obtain ⟨hx0, hx1, hx2⟩ := hi20
      obtain ⟨wb, hwb⟩ : ∃ wb, wb = wr := ⟨_, rfl⟩
      subst hwb
      go_wp2_with fail
      go_loopg [13, 17] 9 (fun gg s13 s17 wr => ∃ (m : Nat) (vs : Nat → Nat) (hv : Nat → Value), s17 = .int .i64 (m : Int) ∧ s13 = .int .i64 (wantG vs m) ∧ m ≤ 8 ∧ m ≤ li ∧ 8 - m ≤ gg ∧ Aside (∀ i, vs i ≤ 4) ∧ Aside (Dl w wr C gw gd a p q C k ws ds (handsG k vs m) hv))
      case atStart => exact ⟨0, fun _ => 0, fun _ => .slice none 0 0, rfl, rfl, by omega, by omega, by omega, (fun i => by simp : ∀ i : Nat, (fun _ => 0 : Nat → Nat) i ≤ 4), HDl.out⟩
      case round =>
        clear HDl
        obtain ⟨m, vs, hv, rfl, rfl, hm, hml, hgg, hvs, hdl⟩ := hrel
        by_cases hgo : m < li ∧ m < 8
        · obtain ⟨hk1, hk2⟩ := hgo
          obtain ⟨g2, off, rfl, hc0, hwf⟩ := HRI.out m hk1
          have hc : wr.cell? ⟨g2, off + m, none⟩ = some (.int .i64 (zi.getD m 0)) := by rw [hdl.out.tu.cell (p := ⟨g2, off + m, none⟩) (block_lt hc0) (by simp)]; exact hc0
          have e3 : (m : Int) < (li : Int) := by omega
          have e4 : (m : Int) < 8 := by omega
          have HPk := hide (fun w' => lpick_any (zi.getD m 0) 5 w' hwf (by omega))
          clear hc0 hwf
          generalize zi.getD m 0 = zm at *
          have hwb := wantG_le vs hvs.out m
          have HWn := hide (fun r => wantG_next vs m r)
          have HHn := hide (fun r => handsG_next k vs m r)
          generalize wantG vs m = wt at *
          go_wp2_with fail
          refine (HPk.out _).mono ?_
          rintro e w4 ⟨⟨r, rfl, hr⟩, hw⟩
          rw [hw]
          clear hw w4 HPk hc
          have hlt : m % k < k := Nat.mod_lt _ (by omega)
          obtain ⟨b, hb⟩ : ∃ b, ws[m % k]? = some b := ⟨ws[m % k]'(by have := HLen.out; omega), by simp⟩
          have hz : ¬ ((k : Int) = 0) := by omega
          have hzn : ¬ (k = 0) := by omega
          have hz1 : ¬ ((k : Int) = -1) := by omega
          have hmod : (m : Int).tmod (k : Int) = ((m % k : Nat) : Int) := by rw [Int.tmod_eq_emod_of_nonneg (by omega)]; simp
          obtain ⟨cw, cd, hh⟩ := hdl.out.cw.head
          have c0 : wr.cell? ⟨C, 0, none⟩ = some (.slice (some ⟨gw, 0, none⟩) k cw) := by rw [cell_of_heap hh, HLen.out.1]; rfl
          have kw := hdl.out.cw.w_ _ b hb
          have b0 : wr.cell? ⟨b, 0, none⟩ = some (hv (m % k)) := by rw [(hdl.out.wk _ b hb).1.f 0]; rfl
          have HB := hide hb
          have hrow := hdl.out.row (m % k) (by have := HLen.out; omega)
          have hXl : (handsG k vs m (m % k)).length ≤ 8 := by have := handsG_len k vs m (m % k); omega
          generalize hrr : m % k = rr at *
          have HRR := hide hrr
          clear hrr hh hb
          have hne := hdl.out.cw.ne (hdl.out.wk rr b HB.out).1
          obtain ⟨n1, n2, -⟩ := hne
          have hCs := hdl.out.lo.2.2.2.2
          have HKp : Hid (∀ (w' : World) (o : Obj), (wr.drew.alloc o).grownBy w' (hv rr).ownBlock → (w'.cell? ⟨C, 0, none⟩ = some (.slice (some ⟨gw, 0, none⟩) k cw) ∧ w'.cell? ⟨gw, rr, none⟩ = some (.pointer (some ⟨b, 0, none⟩))) ∧ w'.cell? ⟨b, 0, none⟩ = some (hv rr) ∧ w'.frozen? ⟨b, 0, none⟩ = false) := by
            intro w' o hg
            have t1 : Turned [] wr (wr.drew.alloc o) := ((Turned.refl [] wr).drew).alloc o
            have h1 := hdl.out.turned0 t1
            have hrl : rr < ws.length := by have := HLen.out; omega
            obtain ⟨h2, h3⟩ := h1.grew hrl hg
            have hk1 := h3 rr b HB.out
            have tg := turned_grown hg
            refine ⟨⟨?_, h2.w_ rr b HB.out⟩, by rw [hk1.f 0]; rfl, hk1.fz 0⟩
            rw [tg.cell (p := ⟨C, 0, none⟩) (by obtain ⟨_, _, hh⟩ := h1.cw.head; exact lt_of_heap hh) (fun hm => ?_), t1.cell (p := ⟨C, 0, none⟩) (by obtain ⟨_, _, hh⟩ := hdl.out.cw.head; exact lt_of_heap hh) (by simp)]
            · exact c0
            · obtain ⟨_, _, c, h4⟩ := ownsRow_lt (h1.row rr hrl) C (by simpa using hm)
              obtain ⟨_, _, hh⟩ := h1.cw.head
              exact ne_of_type hh h4 (by decide) rfl
          go_wp2_with fail
          rw [want_wrap wt r hr (by omega), ← HWn.out r]
          generalize hwt2 : wantG (updn vs m r) (m + 1) = wt2
          have HW2 := hide hwt2
          clear hwt2
          have HSt : Hid (∀ (w' : World) (v : Value), (w'.cell? ⟨C, 0, none⟩ = some (.slice (some ⟨gw, 0, none⟩) k cw) ∧ w'.cell? ⟨gw, rr, none⟩ = some (.pointer (some ⟨b, 0, none⟩))) → ((w'.setCell ⟨b, 0, none⟩ v).cell? ⟨C, 0, none⟩ = some (.slice (some ⟨gw, 0, none⟩) k cw) ∧ (w'.setCell ⟨b, 0, none⟩ v).cell? ⟨gw, rr, none⟩ = some (.pointer (some ⟨b, 0, none⟩)))) := by
            rintro w' v ⟨h1, h2⟩
            have t : Turned [b] w' (w'.setCell ⟨b, 0, none⟩ v) := (Turned.refl _ _).setCell (by simp) _
            exact ⟨by rw [t.cell (p := ⟨C, 0, none⟩) (block_lt h1) (by simp; exact n1)]; exact h1, by rw [t.cell (p := ⟨gw, rr, none⟩) (block_lt h2) (by simp; exact n2)]; exact h2⟩
          have hltC : C < wr.heap.size := by obtain ⟨_, _, hh⟩ := hdl.out.cw.head; exact lt_of_heap hh
          have hltg : gw < wr.heap.size := by obtain ⟨_, _, hh⟩ := hdl.out.cw.rw_; exact lt_of_heap hh
          have hltb : b < wr.heap.size := (hdl.out.wk rr b HB.out).1.lt
          refine wp_region_held_drew (S := (fun w' => w'.cell? ⟨C, 0, none⟩ = some (.slice (some ⟨gw, 0, none⟩) k cw) ∧ w'.cell? ⟨gw, rr, none⟩ = some (.pointer (some ⟨b, 0, none⟩)))) (by kernel_rfl) (by go_keep) (fun hHeld => ?_)
          refine wpAnyH_take (i := 0) (v := ?_) rfl (by kernel_rfl) (by kernel_rfl) (by kernel_rfl) (fun _ _ _ h => h) (Or.inl ⟨by rfl, ?_⟩) (by assumption) ?_
          rotate_left
          · (intro w hSw; (try dsimp only at hSw); go_simp; all_goals with_reducible rfl)
          (try simp only [List.getElem_toArray, List.getElem_cons_succ, List.getElem_cons_zero, Act.put, List.setIfInBounds_toArray, List.set_cons_zero, List.set_cons_succ])
          refine wpAnyH_take (i := 1) (v := ?_) rfl (by kernel_rfl) (by kernel_rfl) (by kernel_rfl) (fun _ _ _ h => h) (Or.inl ⟨by rfl, ?_⟩) (by assumption) ?_
          rotate_left
          · (intro w hSw; (try dsimp only at hSw); go_simp; all_goals with_reducible rfl)
          (try simp only [List.getElem_toArray, List.getElem_cons_succ, List.getElem_cons_zero, Act.put, List.setIfInBounds_toArray, List.set_cons_zero, List.set_cons_succ])
          refine wpAnyH_take (i := 2) (v := ?_) rfl (by kernel_rfl) (by kernel_rfl) (by kernel_rfl) (fun _ _ _ h => h) (Or.inl ⟨by rfl, ?_⟩) (by assumption) ?_
          rotate_left
          · (intro w hSw; (try dsimp only at hSw); go_simp; all_goals with_reducible rfl)
          (try simp only [List.getElem_toArray, List.getElem_cons_succ, List.getElem_cons_zero, Act.put, List.setIfInBounds_toArray, List.set_cons_zero, List.set_cons_succ])
          refine wpAnyH_take (i := 3) (v := ?_) rfl (by kernel_rfl) (by kernel_rfl) (by kernel_rfl) (fun _ _ _ h => h) (Or.inl ⟨by rfl, ?_⟩) (by assumption) ?_
          rotate_left
          · (intro w hSw; (try dsimp only at hSw); go_simp; all_goals with_reducible rfl)
          (try simp only [List.getElem_toArray, List.getElem_cons_succ, List.getElem_cons_zero, Act.put, List.setIfInBounds_toArray, List.set_cons_zero, List.set_cons_succ])
          refine wpAnyH_take (i := 4) (v := ?_) rfl (by kernel_rfl) (by kernel_rfl) (by kernel_rfl) (fun _ _ _ h => h) (Or.inl ⟨by rfl, ?_⟩) (by assumption) ?_
          rotate_left
          · (intro w hSw; (try dsimp only at hSw); go_simp; all_goals with_reducible rfl)
          (try simp only [List.getElem_toArray, List.getElem_cons_succ, List.getElem_cons_zero, Act.put, List.setIfInBounds_toArray, List.set_cons_zero, List.set_cons_succ])
          refine wpAnyH_take (i := 5) (v := ?_) rfl (by kernel_rfl) (by kernel_rfl) (by kernel_rfl) (fun _ _ _ h => h) (Or.inl ⟨by rfl, ?_⟩) (by assumption) ?_
          rotate_left
          · (intro w hSw; (try dsimp only at hSw); go_simp; all_goals with_reducible rfl)
          (try simp only [List.getElem_toArray, List.getElem_cons_succ, List.getElem_cons_zero, Act.put, List.setIfInBounds_toArray, List.set_cons_zero, List.set_cons_succ])
          refine wpAnyH_take (i := 6) (v := ?_) rfl (by kernel_rfl) (by kernel_rfl) (by kernel_rfl) (fun _ _ _ h => h) (Or.inl ⟨by rfl, ?_⟩) (by assumption) ?_
          rotate_left
          · (intro w hSw; (try dsimp only at hSw); go_simp; all_goals with_reducible rfl)
          (try simp only [List.getElem_toArray, List.getElem_cons_succ, List.getElem_cons_zero, Act.put, List.setIfInBounds_toArray, List.set_cons_zero, List.set_cons_succ])
          refine wpAnyH_take (i := 7) (v := ?_) rfl (by kernel_rfl) (by kernel_rfl) (by kernel_rfl) (fun _ _ _ h => h) (Or.inl ⟨by rfl, ?_⟩) (by assumption) ?_
          rotate_left
          · (intro w hSw; (try dsimp only at hSw); go_simp; all_goals with_reducible rfl)
          (try simp only [List.getElem_toArray, List.getElem_cons_succ, List.getElem_cons_zero, Act.put, List.setIfInBounds_toArray, List.set_cons_zero, List.set_cons_succ])
          refine wpAnyH_take (i := 8) (v := ?_) rfl (by kernel_rfl) (by kernel_rfl) (by kernel_rfl) (fun _ _ _ h => h) (Or.inl ⟨by rfl, ?_⟩) (by assumption) ?_
          rotate_left
          · (intro w hSw; (try dsimp only at hSw); go_simp; all_goals with_reducible rfl)
          (try simp only [List.getElem_toArray, List.getElem_cons_succ, List.getElem_cons_zero, Act.put, List.setIfInBounds_toArray, List.set_cons_zero, List.set_cons_succ])
          refine wpAnyH_take (i := 9) (v := ?_) rfl (by kernel_rfl) (by kernel_rfl) (by kernel_rfl) (fun _ _ _ h => h) (Or.inl ⟨by rfl, ?_⟩) (by assumption) ?_
          rotate_left
          · (intro w hSw; (try dsimp only at hSw); go_simp; all_goals with_reducible rfl)
          (try simp only [List.getElem_toArray, List.getElem_cons_succ, List.getElem_cons_zero, Act.put, List.setIfInBounds_toArray, List.set_cons_zero, List.set_cons_succ])
          refine wpAnyH_take (i := 10) (v := ?_) rfl (by kernel_rfl) (by kernel_rfl) (by kernel_rfl) (fun _ _ _ h => h) (Or.inl ⟨by rfl, ?_⟩) (by assumption) ?_
          rotate_left
          · (intro w hSw; (try dsimp only at hSw); go_simp; all_goals with_reducible rfl)
          (try simp only [List.getElem_toArray, List.getElem_cons_succ, List.getElem_cons_zero, Act.put, List.setIfInBounds_toArray, List.set_cons_zero, List.set_cons_succ])
          refine wpAnyH_take (i := 11) (v := ?_) rfl (by kernel_rfl) (by kernel_rfl) (by kernel_rfl) (fun _ _ _ h => h) (Or.inl ⟨by rfl, ?_⟩) (by assumption) ?_
          rotate_left
          · (intro w hSw; (try dsimp only at hSw); go_simp; all_goals with_reducible rfl)
          (try simp only [List.getElem_toArray, List.getElem_cons_succ, List.getElem_cons_zero, Act.put, List.setIfInBounds_toArray, List.set_cons_zero, List.set_cons_succ])
          refine wpAnyH_take (i := 12) (v := ?_) rfl (by kernel_rfl) (by kernel_rfl) (by kernel_rfl) (fun _ _ _ h => h) (Or.inl ⟨by rfl, ?_⟩) (by assumption) ?_
          rotate_left
          · (intro w hSw; (try dsimp only at hSw); go_simp; all_goals with_reducible rfl)
          (try simp only [List.getElem_toArray, List.getElem_cons_succ, List.getElem_cons_zero, Act.put, List.setIfInBounds_toArray, List.set_cons_zero, List.set_cons_succ])
          refine wpAnyH_take (i := 13) (v := ?_) rfl (by kernel_rfl) (by kernel_rfl) (by kernel_rfl) (fun _ _ _ h => h) (Or.inl ⟨by rfl, ?_⟩) (by assumption) ?_
          rotate_left
          · (intro w hSw; (try dsimp only at hSw); go_simp; all_goals with_reducible rfl)
          (try simp only [List.getElem_toArray, List.getElem_cons_succ, List.getElem_cons_zero, Act.put, List.setIfInBounds_toArray, List.set_cons_zero, List.set_cons_succ])
          refine wpAnyH_take (i := 14) (v := ?_) rfl (by kernel_rfl) (by kernel_rfl) (by kernel_rfl) (fun _ _ _ h => h) (Or.inl ⟨by rfl, ?_⟩) (by assumption) ?_
          rotate_left
          · (intro w hSw; (try dsimp only at hSw); go_simp; all_goals with_reducible rfl)
          (try simp only [List.getElem_toArray, List.getElem_cons_succ, List.getElem_cons_zero, Act.put, List.setIfInBounds_toArray, List.set_cons_zero, List.set_cons_succ])
          refine wpAnyH_take (i := 15) (v := ?_) rfl (by kernel_rfl) (by kernel_rfl) (by kernel_rfl) (fun _ _ _ h => h) (Or.inl ⟨by rfl, ?_⟩) (by assumption) ?_
          rotate_left
          · (intro w hSw; (try dsimp only at hSw); go_simp; all_goals with_reducible rfl)
          (try simp only [List.getElem_toArray, List.getElem_cons_succ, List.getElem_cons_zero, Act.put, List.setIfInBounds_toArray, List.set_cons_zero, List.set_cons_succ])
          refine wpAnyH_take (i := 16) (v := ?_) rfl (by kernel_rfl) (by kernel_rfl) (by kernel_rfl) (fun _ _ _ h => h) (Or.inl ⟨by rfl, ?_⟩) (by assumption) ?_
          rotate_left
          · (intro w hSw; (try dsimp only at hSw); go_simp; all_goals with_reducible rfl)
          (try simp only [List.getElem_toArray, List.getElem_cons_succ, List.getElem_cons_zero, Act.put, List.setIfInBounds_toArray, List.set_cons_zero, List.set_cons_succ])
          refine wpAnyH_take (i := 17) (v := ?_) rfl (by kernel_rfl) (by kernel_rfl) (by kernel_rfl) (fun _ _ _ h => h) (Or.inl ⟨by rfl, ?_⟩) (by assumption) ?_
          rotate_left
          · (intro w hSw; (try dsimp only at hSw); go_simp; all_goals with_reducible rfl)
          (try simp only [List.getElem_toArray, List.getElem_cons_succ, List.getElem_cons_zero, Act.put, List.setIfInBounds_toArray, List.set_cons_zero, List.set_cons_succ])
          refine wpAnyH_take (i := 18) (v := ?_) rfl (by kernel_rfl) (by kernel_rfl) (by kernel_rfl) (fun _ _ _ h => h) (Or.inl ⟨by rfl, ?_⟩) (by assumption) ?_
          rotate_left
          · (intro w hSw; (try dsimp only at hSw); go_simp; all_goals with_reducible rfl)
          (try simp only [List.getElem_toArray, List.getElem_cons_succ, List.getElem_cons_zero, Act.put, List.setIfInBounds_toArray, List.set_cons_zero, List.set_cons_succ])
          refine wpAnyH_take (i := 19) (v := ?_) rfl (by kernel_rfl) (by kernel_rfl) (by kernel_rfl) (fun _ _ _ h => h) (Or.inl ⟨by rfl, ?_⟩) (by assumption) ?_
          rotate_left
          · (intro w hSw; (try dsimp only at hSw); go_simp; all_goals with_reducible rfl)
          (try simp only [List.getElem_toArray, List.getElem_cons_succ, List.getElem_cons_zero, Act.put, List.setIfInBounds_toArray, List.set_cons_zero, List.set_cons_succ])
          refine wpAnyH_take (i := 21) (v := ?_) rfl (by kernel_rfl) (by kernel_rfl) (by kernel_rfl) (fun _ _ _ h => h) (Or.inl ⟨by rfl, ?_⟩) (by assumption) ?_
          rotate_left
          · (intro w hSw; (try dsimp only at hSw); go_simp; all_goals with_reducible rfl)
          (try simp only [List.getElem_toArray, List.getElem_cons_succ, List.getElem_cons_zero, Act.put, List.setIfInBounds_toArray, List.set_cons_zero, List.set_cons_succ])
          refine wpAnyH_ready (rs := [20, 22]) (by kernel_rfl) (by simp) ?_
          refine AllReadyH.cons rfl (fun K hK => ?_) ?_
          · (try simp only [List.getElem_toArray, List.getElem_cons_succ, List.getElem_cons_zero])
            go_simp
            refine hK.out _ _ ?_ (fun hHeld => ?_)
            · ((try dsimp only); go_keep)
            clear hK K
            (try simp only [List.getElem_toArray, List.getElem_cons_succ, List.getElem_cons_zero, Act.put, List.setIfInBounds_toArray, List.set_cons_zero, List.set_cons_succ])
            refine wpAnyH_ready (rs := [22]) (by kernel_rfl) (by simp) ?_
            refine AllReadyH.cons rfl (fun K hK => ?_) AllReadyH.nil
            (try simp only [List.getElem_toArray, List.getElem_cons_succ, List.getElem_cons_zero])
            go_simp
            refine hK.out _ _ ?_ (fun hHeld => ?_)
            · ((try dsimp only); go_keep)
            clear hK K
            (try simp only [List.getElem_toArray, List.getElem_cons_succ, List.getElem_cons_zero, Act.put, List.setIfInBounds_toArray, List.set_cons_zero, List.set_cons_succ])
            refine wpAnyH_ready (rs := [23]) (by kernel_rfl) (by simp) ?_
            refine AllReadyH.cons rfl (fun K hK => ?_) AllReadyH.nil
            (try simp only [List.getElem_toArray, List.getElem_cons_succ, List.getElem_cons_zero])
            refine of_wanted (by rfl) ?_
            (try rw [show (wr.alloc (.cells #[.int .i64 (r : Int)] 2)).drew = wr.drew.alloc (.cells #[.int .i64 (r : Int)] 2) from rfl])
            refine wp_append_lies _ (.tmp 125) (.tmp 127) 40 ?_ C 2 i2 _ 1 8 und2 hi2 hx0 hx1 hx2 rfl (by omega) _ _ _ ?_ ((World.ownsRow.drew hrow).alloc _) ⟨wr.heap.size, 0, none⟩ 1 1 [.int .i64 r] ?_ rfl (cell_one_new _ _ _) (by intro u hu; simp at hu; subst hu; rfl) (by omega) (by unfold maxLen; omega) (by omega) (by simp; omega) (wr.heap.size + 1) (by simp) ?_
            · rfl
            · rfl
            · rfl
            intro g3 cap3 w3 hown3 hgrow3 hat3 hlt3; have b1 := (HKp.out _ _ hgrow3).1.1; have b2 := (HKp.out _ _ hgrow3).1.2; have bb := (HKp.out _ _ hgrow3).2.1; have bz := (HKp.out _ _ hgrow3).2.2
            refine hK.out _ _ ?_ (fun hHeld => ?_)
            · ((try dsimp only); exact (HKp.out _ _ hgrow3).1)
            clear hK K
            (try simp only [List.getElem_toArray, List.getElem_cons_succ, List.getElem_cons_zero, Act.put, List.setIfInBounds_toArray, List.set_cons_zero, List.set_cons_succ])
            refine wpAnyH_take (i := 24) (v := ?_) rfl (by kernel_rfl) (by kernel_rfl) (by kernel_rfl) (fun _ _ _ h => h) (Or.inl ⟨by rfl, ?_⟩) (by assumption) ?_
            rotate_left
            · (intro w hSw; (try dsimp only at hSw); go_simp; all_goals with_reducible rfl)
            (try simp only [List.getElem_toArray, List.getElem_cons_succ, List.getElem_cons_zero, Act.put, List.setIfInBounds_toArray, List.set_cons_zero, List.set_cons_succ])
            refine wpAnyH_take (i := 25) (v := ?_) rfl (by kernel_rfl) (by kernel_rfl) (by kernel_rfl) (fun _ _ _ h => h) (Or.inl ⟨by rfl, ?_⟩) (by assumption) ?_
            rotate_left
            · (intro w hSw; (try dsimp only at hSw); go_simp; all_goals with_reducible rfl)
            (try simp only [List.getElem_toArray, List.getElem_cons_succ, List.getElem_cons_zero, Act.put, List.setIfInBounds_toArray, List.set_cons_zero, List.set_cons_succ])
            refine wpAnyH_ready (rs := [26]) (by kernel_rfl) (by simp) ?_
            refine AllReadyH.cons rfl (fun K hK => ?_) AllReadyH.nil
            (try simp only [List.getElem_toArray, List.getElem_cons_succ, List.getElem_cons_zero])
            go_simp
            refine hK.out _ _ ?_ (fun hHeld => ?_)
            · ((try dsimp only); exact HSt.out _ _ (HKp.out _ _ hgrow3).1)
            clear hK K
            (try simp only [List.getElem_toArray, List.getElem_cons_succ, List.getElem_cons_zero, Act.put, List.setIfInBounds_toArray, List.set_cons_zero, List.set_cons_succ])
            refine wpAnyH_done (by kernel_rfl) ?_ _
            have HD2 : Hid (Dl w (w3.setCell ⟨b, 0, none⟩ (.slice (some ⟨g3, 0, none⟩) ((handsG k vs m rr).length + 1) cap3)) C gw gd a p q C k ws ds (handsG k (updn vs m r) (m + 1)) (fun i => if i = rr then .slice (some ⟨g3, 0, none⟩) ((handsG k vs m rr).length + 1) cap3 else hv i)) := by
              have h1 := hdl.out.turned0 (((Turned.refl [] wr).drew).alloc (.cells #[.int .i64 (r : Int)] 2))
              have h2 := h1.deal HB.out rfl hown3 hgrow3 (by rcases hat3 with h | h; exact .inl h; exact .inr (by simpa using h))
              rw [HHn.out r]
              exact h2
            clear HKp HSt hown3 hgrow3 hat3 hlt3 b1 b2 bb bz c0 kw b0
            go_wp2_with fail
            go_roundg (8 - (m + 1))
            case measure => omega
            case rel => exact ⟨m + 1, updn vs m r, _, by go_num, by rw [HW2.out], by omega, by omega, Nat.le_refl _, (fun i => by unfold updn; split; omega; exact hvs.out i : ∀ i, updn vs m r i ≤ 4), HD2.out⟩
          · refine AllReadyH.cons rfl (fun K hK => ?_) AllReadyH.nil
            (try simp only [List.getElem_toArray, List.getElem_cons_succ, List.getElem_cons_zero])
            go_simp
            refine hK.out _ _ ?_ (fun hHeld => ?_)
            · ((try dsimp only); go_keep)
            clear hK K
            (try simp only [List.getElem_toArray, List.getElem_cons_succ, List.getElem_cons_zero, Act.put, List.setIfInBounds_toArray, List.set_cons_zero, List.set_cons_succ])
            refine wpAnyH_ready (rs := [20]) (by kernel_rfl) (by simp) ?_
            refine AllReadyH.cons rfl (fun K hK => ?_) AllReadyH.nil
            (try simp only [List.getElem_toArray, List.getElem_cons_succ, List.getElem_cons_zero])
            go_simp
            refine hK.out _ _ ?_ (fun hHeld => ?_)
            · ((try dsimp only); go_keep)
            clear hK K
            (try simp only [List.getElem_toArray, List.getElem_cons_succ, List.getElem_cons_zero, Act.put, List.setIfInBounds_toArray, List.set_cons_zero, List.set_cons_succ])
            refine wpAnyH_ready (rs := [23]) (by kernel_rfl) (by simp) ?_
            refine AllReadyH.cons rfl (fun K hK => ?_) AllReadyH.nil
            (try simp only [List.getElem_toArray, List.getElem_cons_succ, List.getElem_cons_zero])
            refine of_wanted (by rfl) ?_
            (try rw [show (wr.alloc (.cells #[.int .i64 (r : Int)] 2)).drew = wr.drew.alloc (.cells #[.int .i64 (r : Int)] 2) from rfl])
            refine wp_append_lies _ (.tmp 125) (.tmp 127) 40 ?_ C 2 i2 _ 1 8 und2 hi2 hx0 hx1 hx2 rfl (by omega) _ _ _ ?_ ((World.ownsRow.drew hrow).alloc _) ⟨wr.heap.size, 0, none⟩ 1 1 [.int .i64 r] ?_ rfl (cell_one_new _ _ _) (by intro u hu; simp at hu; subst hu; rfl) (by omega) (by unfold maxLen; omega) (by omega) (by simp; omega) (wr.heap.size + 1) (by simp) ?_
            · rfl
            · rfl
            · rfl
            intro g3 cap3 w3 hown3 hgrow3 hat3 hlt3; have b1 := (HKp.out _ _ hgrow3).1.1; have b2 := (HKp.out _ _ hgrow3).1.2; have bb := (HKp.out _ _ hgrow3).2.1; have bz := (HKp.out _ _ hgrow3).2.2
            refine hK.out _ _ ?_ (fun hHeld => ?_)
            · ((try dsimp only); exact (HKp.out _ _ hgrow3).1)
            clear hK K
            (try simp only [List.getElem_toArray, List.getElem_cons_succ, List.getElem_cons_zero, Act.put, List.setIfInBounds_toArray, List.set_cons_zero, List.set_cons_succ])
            refine wpAnyH_take (i := 24) (v := ?_) rfl (by kernel_rfl) (by kernel_rfl) (by kernel_rfl) (fun _ _ _ h => h) (Or.inl ⟨by rfl, ?_⟩) (by assumption) ?_
            rotate_left
            · (intro w hSw; (try dsimp only at hSw); go_simp; all_goals with_reducible rfl)
            (try simp only [List.getElem_toArray, List.getElem_cons_succ, List.getElem_cons_zero, Act.put, List.setIfInBounds_toArray, List.set_cons_zero, List.set_cons_succ])
            refine wpAnyH_take (i := 25) (v := ?_) rfl (by kernel_rfl) (by kernel_rfl) (by kernel_rfl) (fun _ _ _ h => h) (Or.inl ⟨by rfl, ?_⟩) (by assumption) ?_
            rotate_left
            · (intro w hSw; (try dsimp only at hSw); go_simp; all_goals with_reducible rfl)
            (try simp only [List.getElem_toArray, List.getElem_cons_succ, List.getElem_cons_zero, Act.put, List.setIfInBounds_toArray, List.set_cons_zero, List.set_cons_succ])
            refine wpAnyH_ready (rs := [26]) (by kernel_rfl) (by simp) ?_
            refine AllReadyH.cons rfl (fun K hK => ?_) AllReadyH.nil
            (try simp only [List.getElem_toArray, List.getElem_cons_succ, List.getElem_cons_zero])
            go_simp
            refine hK.out _ _ ?_ (fun hHeld => ?_)
            · ((try dsimp only); exact HSt.out _ _ (HKp.out _ _ hgrow3).1)
            clear hK K
            (try simp only [List.getElem_toArray, List.getElem_cons_succ, List.getElem_cons_zero, Act.put, List.setIfInBounds_toArray, List.set_cons_zero, List.set_cons_succ])
            refine wpAnyH_done (by kernel_rfl) ?_ _
            have HD2 : Hid (Dl w (w3.setCell ⟨b, 0, none⟩ (.slice (some ⟨g3, 0, none⟩) ((handsG k vs m rr).length + 1) cap3)) C gw gd a p q C k ws ds (handsG k (updn vs m r) (m + 1)) (fun i => if i = rr then .slice (some ⟨g3, 0, none⟩) ((handsG k vs m rr).length + 1) cap3 else hv i)) := by
              have h1 := hdl.out.turned0 (((Turned.refl [] wr).drew).alloc (.cells #[.int .i64 (r : Int)] 2))
              have h2 := h1.deal HB.out rfl hown3 hgrow3 (by rcases hat3 with h | h; exact .inl h; exact .inr (by simpa using h))
              rw [HHn.out r]
              exact h2
            clear HKp HSt hown3 hgrow3 hat3 hlt3 b1 b2 bb bz c0 kw b0
            go_wp2_with fail
            go_roundg (8 - (m + 1))
            case measure => omega
            case rel => exact ⟨m + 1, updn vs m r, _, by go_num, by rw [HW2.out], by omega, by omega, Nat.le_refl _, (fun i => by unfold updn; split; omega; exact hvs.out i : ∀ i, updn vs m r i ≤ 4), HD2.out⟩
        · have ends : Aside (¬ (m < li ∧ m < 8)) := hgo
          clear hgo
          by_cases hkl2 : m < li
          · have e3 : (m : Int) < (li : Int) := by omega
            have e4 : ¬ (m : Int) < 8 := by have := ends.out; omega
            have G0 := hide hdl.out.gang
            have HEE := hide (fun (j : Nat) (pk : Nat → Nat) (hj : j ≤ 400) (hp : ∀ i, pk i < k) => HE.out k m j vs pk hn4.1 hn4.2 hm hvs.out hj hp)
            have hwb := wantG_le vs hvs.out m
            clear hdl
            generalize startG (handsG k vs m) = S0 at HEE G0
            generalize wantG vs m = wt at *
            clear hvs
            obtain ⟨wd, hwd⟩ : ∃ wd, wd = wr := ⟨_, rfl⟩
            subst hwd
            go_wp2_with fail
            go_loopg [19] 401 (fun gg s19 wr => ∃ (j : Nat) (pk : Nat → Nat), s19 = .int .i64 (j : Int) ∧ j ≤ 400 ∧ j ≤ lp ∧ 400 - j ≤ gg ∧ Aside (∀ i, pk i < k) ∧ Aside (Gang w wr C gw gd a p q ws ds (QE k) (pickG k pk S0 j)))
            case atStart => exact ⟨0, fun _ => 0, rfl, by omega, by omega, by omega, (fun i => (by omega : 0 < k) : ∀ i : Nat, (fun _ => 0 : Nat → Nat) i < k), (show Gang _ _ _ _ _ _ _ _ _ _ _ (pickG k _ S0 0) by unfold pickG; exact G0.out)⟩
            case round =>
              clear G0
              obtain ⟨j, pk, rfl, hj, hjl, hgg3, hpk, hga⟩ := hrel
              by_cases hgo : j < lp ∧ j < 400
              · obtain ⟨hk1, hk2⟩ := hgo
                obtain ⟨g5, off5, rfl, hc0, hwf⟩ := HRP.out j hk1
                have hc : wr.cell? ⟨g5, off5 + j, none⟩ = some (.int .i64 (zp.getD j 0)) := by obtain ⟨_, hB⟩ := hga.out; rw [hB.tu.cell (p := ⟨g5, off5 + j, none⟩) (block_lt hc0) (by simp)]; exact hc0
                have e5 : (j : Int) < (lp : Int) := by omega
                have e6 : (j : Int) < 400 := by omega
                have HPk := hide (fun w' => lpick_any (zp.getD j 0) k w' hwf (by omega))
                clear hc0 hwf
                generalize zp.getD j 0 = zm at *
                go_wp2_with fail
                refine (HPk.out _).mono ?_
                rintro e w4 ⟨⟨r, rfl, hr⟩, hw⟩
                rw [hw]
                clear hw w4 HPk hc
                have HP2 : Hid (∀ i, updn pk j r i < k) := fun i => by unfold updn; split; exact hr; exact hpk.out i
                have HS := hide (pick_step HLen.out hr hga.out (pick_may (HEE.out (j + 1) (updn pk j r) (by omega) HP2.out).1))
                go_wp2_with fail
                refine HS.out.mono ?_
                rintro e w5 ⟨rfl, h1⟩
                have H1 := hide h1
                clear h1 HS
                go_wp2_with fail
                go_roundg (400 - (j + 1))
                case measure => omega
                case rel => exact ⟨j + 1, updn pk j r, by go_num, by omega, by omega, Nat.le_refl _, HP2.out, H1.out⟩
              · have ends2 : Aside (¬ (j < lp ∧ j < 400)) := hgo
                clear hgo
                by_cases hkl3 : j < lp
                · have e5 : (j : Int) < (lp : Int) := by omega
                  have e6 : ¬ (j : Int) < 400 := by have := ends2.out; omega
                  have HEnd := hide (HEE.out j pk hj hpk.out).2
                  have G1 := hide hga.out
                  clear HEE hga hpk
                  generalize pickG k pk S0 j = S1 at HEnd G1
                  obtain ⟨we, hwe⟩ : ∃ we, we = wr := ⟨_, rfl⟩
                  subst hwe
                  go_wp2_with fail
                  go_loopg [21] 60001 (fun gg s21 wr => ∃ (i : Nat), s21 = .int .i64 (i : Int) ∧ i ≤ 60000 ∧ 60000 - i ≤ gg ∧ Aside (Gang w wr C gw gd a p q ws ds (QE k) (turnG k S1 i)))
                  case atStart => exact ⟨0, rfl, by omega, by omega, (show Gang _ _ _ _ _ _ _ _ _ _ _ (turnG k S1 0) by unfold turnG; exact G1.out)⟩
                  case round =>
                    clear G1
                    obtain ⟨i, rfl, hi, hgg4, hga⟩ := hrel
                    by_cases hi2 : i < 60000
                    · have e7 : (i : Int) < 60000 := by omega
                      have hlt : i % k < k := Nat.mod_lt _ (by omega)
                      have hz : ¬ ((k : Int) = 0) := by omega
                      have hzn : ¬ (k = 0) := by omega
                      have hz1 : ¬ ((k : Int) = -1) := by omega
                      have hmod : (i : Int).tmod (k : Int) = ((i % k : Nat) : Int) := by rw [Int.tmod_eq_emod_of_nonneg (by omega)]; simp
                      have HS := hide (turnG_step HLen.out (by omega) hga.out (HEnd.out.1 i hi2))
                      generalize i % k = rr at *
                      go_wp2_with fail
                      refine HS.out.mono ?_
                      rintro e w5 ⟨rfl, h1⟩
                      have H1 := hide h1
                      clear h1 HS hmod
                      go_wp2_with fail
                      go_roundg (60000 - (i + 1))
                      case measure => omega
                      case rel => exact ⟨i + 1, by go_num, by omega, Nat.le_refl _, H1.out⟩
                    · have hi3 : i = 60000 := by omega
                      have e7 : ¬ (i : Int) < 60000 := by omega
                      have HF := hide HEnd.out.2
                      have G2 := hide hga.out
                      rw [← hi3] at HF
                      clear hga HEnd
                      generalize turnG k S1 i = S2 at HF G2
                      obtain ⟨wf, hwf⟩ : ∃ wf, wf = wr := ⟨_, rfl⟩
                      subst hwf
                      go_wp2_with fail
                      go_loopg [23] 5 (fun gg s23 wr => ∃ (u : Nat), s23 = .int .i64 (u : Int) ∧ u ≤ k ∧ k - u ≤ gg ∧ Aside (wr = wf))
                      case atStart => exact ⟨0, rfl, by omega, by omega, rfl⟩
                      case round =>
                        obtain ⟨u, rfl, hu, hgg5, hwr⟩ := hrel
                        obtain ⟨⟩ := hwr.out
                        obtain ⟨Bs, gB⟩ := G2.out
                        obtain ⟨cw, cd, hh⟩ := gB.cw.head
                        by_cases hul : u < k
                        · have e8 : (u : Int) < (k : Int) := by omega
                          obtain ⟨b, hb⟩ : ∃ b, ws[u]? = some b := ⟨ws[u]'(by have := HLen.out; omega), by simp⟩
                          have c0 : wf.cell? ⟨C, 0, none⟩ = some (.slice (some ⟨gw, 0, none⟩) k cw) := by rw [cell_of_heap hh, HLen.out.1]; rfl
                          have kw := gB.cw.w_ u b hb
                          have f4 : wf.cell? ⟨b, 4, none⟩ = some (.bool true) := by
                            obtain ⟨hv, g, po, pf, _, r1, _⟩ := gB.wk u b hb
                            have h4 := r1.f 4
                            rw [HF.out.1 u hul] at h4
                            rw [h4]
                            rfl
                          clear hh gB hb
                          go_wp2_with fail
                          go_roundg (k - (u + 1))
                          case measure => omega
                          case rel => exact ⟨u + 1, by go_num, by omega, Nat.le_refl _, rfl⟩
                        · have hul' : u = k := by omega
                          subst hul'
                          have e8 : ¬ ((u : Int) < (u : Int)) := by omega
                          have c3 : wf.cell? ⟨C, 3, none⟩ = some (.int .i64 wt) := by rw [cell_of_heap hh, HF.out.2.1]; rfl
                          have HTu := hide gB.tu
                          have HQt := hide (by
                            obtain ⟨s, hsh⟩ := gB.sh
                            have hSt := HF.out.2.2
                            have hl2 := HLen.out
                            exact cquiet_any wf C gw gd a p q ws ds (QE u) S2.l s S2.dn (fun i hi => (hSt i (by omega)).2.1) (fun i hi => (hSt i (by omega)).2.2) (fun i b' hb' => ⟨_, _, gB.wk i b' hb', (hSt i (by have := (List.getElem?_eq_some_iff.1 hb').1; omega)).1⟩) gB.cw hsh)
                          clear hh gB
                          go_wp2_with fail
                          refine HQt.out.mono ?_
                          rintro e w7 ⟨rfl, h7⟩
                          have H7 := hide h7
                          clear h7 HQt
                          go_wp2_with fail
                          go_ret
                          exact ⟨rfl, HTu.out.trans H7.out⟩
                · have e5 : ¬ (j : Int) < (lp : Int) := by omega
                  have HEnd := hide (HEE.out j pk hj hpk.out).2
                  have G1 := hide hga.out
                  clear HEE hga hpk
                  generalize pickG k pk S0 j = S1 at HEnd G1
                  obtain ⟨we, hwe⟩ : ∃ we, we = wr := ⟨_, rfl⟩
                  subst hwe
                  go_wp2_with fail
                  go_loopg [21] 60001 (fun gg s21 wr => ∃ (i : Nat), s21 = .int .i64 (i : Int) ∧ i ≤ 60000 ∧ 60000 - i ≤ gg ∧ Aside (Gang w wr C gw gd a p q ws ds (QE k) (turnG k S1 i)))
                  case atStart => exact ⟨0, rfl, by omega, by omega, (show Gang _ _ _ _ _ _ _ _ _ _ _ (turnG k S1 0) by unfold turnG; exact G1.out)⟩
                  case round =>
                    clear G1
                    obtain ⟨i, rfl, hi, hgg4, hga⟩ := hrel
                    by_cases hi2 : i < 60000
                    · have e7 : (i : Int) < 60000 := by omega
                      have hlt : i % k < k := Nat.mod_lt _ (by omega)
                      have hz : ¬ ((k : Int) = 0) := by omega
                      have hzn : ¬ (k = 0) := by omega
                      have hz1 : ¬ ((k : Int) = -1) := by omega
                      have hmod : (i : Int).tmod (k : Int) = ((i % k : Nat) : Int) := by rw [Int.tmod_eq_emod_of_nonneg (by omega)]; simp
                      have HS := hide (turnG_step HLen.out (by omega) hga.out (HEnd.out.1 i hi2))
                      generalize i % k = rr at *
                      go_wp2_with fail
                      refine HS.out.mono ?_
                      rintro e w5 ⟨rfl, h1⟩
                      have H1 := hide h1
                      clear h1 HS hmod
                      go_wp2_with fail
                      go_roundg (60000 - (i + 1))
                      case measure => omega
                      case rel => exact ⟨i + 1, by go_num, by omega, Nat.le_refl _, H1.out⟩
                    · have hi3 : i = 60000 := by omega
                      have e7 : ¬ (i : Int) < 60000 := by omega
                      have HF := hide HEnd.out.2
                      have G2 := hide hga.out
                      rw [← hi3] at HF
                      clear hga HEnd
                      generalize turnG k S1 i = S2 at HF G2
                      obtain ⟨wf, hwf⟩ : ∃ wf, wf = wr := ⟨_, rfl⟩
                      subst hwf
                      go_wp2_with fail
                      go_loopg [23] 5 (fun gg s23 wr => ∃ (u : Nat), s23 = .int .i64 (u : Int) ∧ u ≤ k ∧ k - u ≤ gg ∧ Aside (wr = wf))
                      case atStart => exact ⟨0, rfl, by omega, by omega, rfl⟩
                      case round =>
                        obtain ⟨u, rfl, hu, hgg5, hwr⟩ := hrel
                        obtain ⟨⟩ := hwr.out
                        obtain ⟨Bs, gB⟩ := G2.out
                        obtain ⟨cw, cd, hh⟩ := gB.cw.head
                        by_cases hul : u < k
                        · have e8 : (u : Int) < (k : Int) := by omega
                          obtain ⟨b, hb⟩ : ∃ b, ws[u]? = some b := ⟨ws[u]'(by have := HLen.out; omega), by simp⟩
                          have c0 : wf.cell? ⟨C, 0, none⟩ = some (.slice (some ⟨gw, 0, none⟩) k cw) := by rw [cell_of_heap hh, HLen.out.1]; rfl
                          have kw := gB.cw.w_ u b hb
                          have f4 : wf.cell? ⟨b, 4, none⟩ = some (.bool true) := by
                            obtain ⟨hv, g, po, pf, _, r1, _⟩ := gB.wk u b hb
                            have h4 := r1.f 4
                            rw [HF.out.1 u hul] at h4
                            rw [h4]
                            rfl
                          clear hh gB hb
                          go_wp2_with fail
                          go_roundg (k - (u + 1))
                          case measure => omega
                          case rel => exact ⟨u + 1, by go_num, by omega, Nat.le_refl _, rfl⟩
                        · have hul' : u = k := by omega
                          subst hul'
                          have e8 : ¬ ((u : Int) < (u : Int)) := by omega
                          have c3 : wf.cell? ⟨C, 3, none⟩ = some (.int .i64 wt) := by rw [cell_of_heap hh, HF.out.2.1]; rfl
                          have HTu := hide gB.tu
                          have HQt := hide (by
                            obtain ⟨s, hsh⟩ := gB.sh
                            have hSt := HF.out.2.2
                            have hl2 := HLen.out
                            exact cquiet_any wf C gw gd a p q ws ds (QE u) S2.l s S2.dn (fun i hi => (hSt i (by omega)).2.1) (fun i hi => (hSt i (by omega)).2.2) (fun i b' hb' => ⟨_, _, gB.wk i b' hb', (hSt i (by have := (List.getElem?_eq_some_iff.1 hb').1; omega)).1⟩) gB.cw hsh)
                          clear hh gB
                          go_wp2_with fail
                          refine HQt.out.mono ?_
                          rintro e w7 ⟨rfl, h7⟩
                          have H7 := hide h7
                          clear h7 HQt
                          go_wp2_with fail
                          go_ret
                          exact ⟨rfl, HTu.out.trans H7.out⟩
          · have e3 : ¬ (m : Int) < (li : Int) := by omega
            have G0 := hide hdl.out.gang
            have HEE := hide (fun (j : Nat) (pk : Nat → Nat) (hj : j ≤ 400) (hp : ∀ i, pk i < k) => HE.out k m j vs pk hn4.1 hn4.2 hm hvs.out hj hp)
            have hwb := wantG_le vs hvs.out m
            clear hdl
            generalize startG (handsG k vs m) = S0 at HEE G0
            generalize wantG vs m = wt at *
            clear hvs
            obtain ⟨wd, hwd⟩ : ∃ wd, wd = wr := ⟨_, rfl⟩
            subst hwd
            go_wp2_with fail
            go_loopg [19] 401 (fun gg s19 wr => ∃ (j : Nat) (pk : Nat → Nat), s19 = .int .i64 (j : Int) ∧ j ≤ 400 ∧ j ≤ lp ∧ 400 - j ≤ gg ∧ Aside (∀ i, pk i < k) ∧ Aside (Gang w wr C gw gd a p q ws ds (QE k) (pickG k pk S0 j)))
            case atStart => exact ⟨0, fun _ => 0, rfl, by omega, by omega, by omega, (fun i => (by omega : 0 < k) : ∀ i : Nat, (fun _ => 0 : Nat → Nat) i < k), (show Gang _ _ _ _ _ _ _ _ _ _ _ (pickG k _ S0 0) by unfold pickG; exact G0.out)⟩
            case round =>
              clear G0
              obtain ⟨j, pk, rfl, hj, hjl, hgg3, hpk, hga⟩ := hrel
              by_cases hgo : j < lp ∧ j < 400
              · obtain ⟨hk1, hk2⟩ := hgo
                obtain ⟨g5, off5, rfl, hc0, hwf⟩ := HRP.out j hk1
                have hc : wr.cell? ⟨g5, off5 + j, none⟩ = some (.int .i64 (zp.getD j 0)) := by obtain ⟨_, hB⟩ := hga.out; rw [hB.tu.cell (p := ⟨g5, off5 + j, none⟩) (block_lt hc0) (by simp)]; exact hc0
                have e5 : (j : Int) < (lp : Int) := by omega
                have e6 : (j : Int) < 400 := by omega
                have HPk := hide (fun w' => lpick_any (zp.getD j 0) k w' hwf (by omega))
                clear hc0 hwf
                generalize zp.getD j 0 = zm at *
                go_wp2_with fail
                refine (HPk.out _).mono ?_
                rintro e w4 ⟨⟨r, rfl, hr⟩, hw⟩
                rw [hw]
                clear hw w4 HPk hc
                have HP2 : Hid (∀ i, updn pk j r i < k) := fun i => by unfold updn; split; exact hr; exact hpk.out i
                have HS := hide (pick_step HLen.out hr hga.out (pick_may (HEE.out (j + 1) (updn pk j r) (by omega) HP2.out).1))
                go_wp2_with fail
                refine HS.out.mono ?_
                rintro e w5 ⟨rfl, h1⟩
                have H1 := hide h1
                clear h1 HS
                go_wp2_with fail
                go_roundg (400 - (j + 1))
                case measure => omega
                case rel => exact ⟨j + 1, updn pk j r, by go_num, by omega, by omega, Nat.le_refl _, HP2.out, H1.out⟩
              · have ends2 : Aside (¬ (j < lp ∧ j < 400)) := hgo
                clear hgo
                by_cases hkl3 : j < lp
                · have e5 : (j : Int) < (lp : Int) := by omega
                  have e6 : ¬ (j : Int) < 400 := by have := ends2.out; omega
                  have HEnd := hide (HEE.out j pk hj hpk.out).2
                  have G1 := hide hga.out
                  clear HEE hga hpk
                  generalize pickG k pk S0 j = S1 at HEnd G1
                  obtain ⟨we, hwe⟩ : ∃ we, we = wr := ⟨_, rfl⟩
                  subst hwe
                  go_wp2_with fail
                  go_loopg [21] 60001 (fun gg s21 wr => ∃ (i : Nat), s21 = .int .i64 (i : Int) ∧ i ≤ 60000 ∧ 60000 - i ≤ gg ∧ Aside (Gang w wr C gw gd a p q ws ds (QE k) (turnG k S1 i)))
                  case atStart => exact ⟨0, rfl, by omega, by omega, (show Gang _ _ _ _ _ _ _ _ _ _ _ (turnG k S1 0) by unfold turnG; exact G1.out)⟩
                  case round =>
                    clear G1
                    obtain ⟨i, rfl, hi, hgg4, hga⟩ := hrel
                    by_cases hi2 : i < 60000
                    · have e7 : (i : Int) < 60000 := by omega
                      have hlt : i % k < k := Nat.mod_lt _ (by omega)
                      have hz : ¬ ((k : Int) = 0) := by omega
                      have hzn : ¬ (k = 0) := by omega
                      have hz1 : ¬ ((k : Int) = -1) := by omega
                      have hmod : (i : Int).tmod (k : Int) = ((i % k : Nat) : Int) := by rw [Int.tmod_eq_emod_of_nonneg (by omega)]; simp
                      have HS := hide (turnG_step HLen.out (by omega) hga.out (HEnd.out.1 i hi2))
                      generalize i % k = rr at *
                      go_wp2_with fail
                      refine HS.out.mono ?_
                      rintro e w5 ⟨rfl, h1⟩
                      have H1 := hide h1
                      clear h1 HS hmod
                      go_wp2_with fail
                      go_roundg (60000 - (i + 1))
                      case measure => omega
                      case rel => exact ⟨i + 1, by go_num, by omega, Nat.le_refl _, H1.out⟩
                    · have hi3 : i = 60000 := by omega
                      have e7 : ¬ (i : Int) < 60000 := by omega
                      have HF := hide HEnd.out.2
                      have G2 := hide hga.out
                      rw [← hi3] at HF
                      clear hga HEnd
                      generalize turnG k S1 i = S2 at HF G2
                      obtain ⟨wf, hwf⟩ : ∃ wf, wf = wr := ⟨_, rfl⟩
                      subst hwf
                      go_wp2_with fail
                      go_loopg [23] 5 (fun gg s23 wr => ∃ (u : Nat), s23 = .int .i64 (u : Int) ∧ u ≤ k ∧ k - u ≤ gg ∧ Aside (wr = wf))
                      case atStart => exact ⟨0, rfl, by omega, by omega, rfl⟩
                      case round =>
                        obtain ⟨u, rfl, hu, hgg5, hwr⟩ := hrel
                        obtain ⟨⟩ := hwr.out
                        obtain ⟨Bs, gB⟩ := G2.out
                        obtain ⟨cw, cd, hh⟩ := gB.cw.head
                        by_cases hul : u < k
                        · have e8 : (u : Int) < (k : Int) := by omega
                          obtain ⟨b, hb⟩ : ∃ b, ws[u]? = some b := ⟨ws[u]'(by have := HLen.out; omega), by simp⟩
                          have c0 : wf.cell? ⟨C, 0, none⟩ = some (.slice (some ⟨gw, 0, none⟩) k cw) := by rw [cell_of_heap hh, HLen.out.1]; rfl
                          have kw := gB.cw.w_ u b hb
                          have f4 : wf.cell? ⟨b, 4, none⟩ = some (.bool true) := by
                            obtain ⟨hv, g, po, pf, _, r1, _⟩ := gB.wk u b hb
                            have h4 := r1.f 4
                            rw [HF.out.1 u hul] at h4
                            rw [h4]
                            rfl
                          clear hh gB hb
                          go_wp2_with fail
                          go_roundg (k - (u + 1))
                          case measure => omega
                          case rel => exact ⟨u + 1, by go_num, by omega, Nat.le_refl _, rfl⟩
                        · have hul' : u = k := by omega
                          subst hul'
                          have e8 : ¬ ((u : Int) < (u : Int)) := by omega
                          have c3 : wf.cell? ⟨C, 3, none⟩ = some (.int .i64 wt) := by rw [cell_of_heap hh, HF.out.2.1]; rfl
                          have HTu := hide gB.tu
                          have HQt := hide (by
                            obtain ⟨s, hsh⟩ := gB.sh
                            have hSt := HF.out.2.2
                            have hl2 := HLen.out
                            exact cquiet_any wf C gw gd a p q ws ds (QE u) S2.l s S2.dn (fun i hi => (hSt i (by omega)).2.1) (fun i hi => (hSt i (by omega)).2.2) (fun i b' hb' => ⟨_, _, gB.wk i b' hb', (hSt i (by have := (List.getElem?_eq_some_iff.1 hb').1; omega)).1⟩) gB.cw hsh)
                          clear hh gB
                          go_wp2_with fail
                          refine HQt.out.mono ?_
                          rintro e w7 ⟨rfl, h7⟩
                          have H7 := hide h7
                          clear h7 HQt
                          go_wp2_with fail
                          go_ret
                          exact ⟨rfl, HTu.out.trans H7.out⟩
                · have e5 : ¬ (j : Int) < (lp : Int) := by omega
                  have HEnd := hide (HEE.out j pk hj hpk.out).2
                  have G1 := hide hga.out
                  clear HEE hga hpk
                  generalize pickG k pk S0 j = S1 at HEnd G1
                  obtain ⟨we, hwe⟩ : ∃ we, we = wr := ⟨_, rfl⟩
                  subst hwe
                  go_wp2_with fail
                  go_loopg [21] 60001 (fun gg s21 wr => ∃ (i : Nat), s21 = .int .i64 (i : Int) ∧ i ≤ 60000 ∧ 60000 - i ≤ gg ∧ Aside (Gang w wr C gw gd a p q ws ds (QE k) (turnG k S1 i)))
                  case atStart => exact ⟨0, rfl, by omega, by omega, (show Gang _ _ _ _ _ _ _ _ _ _ _ (turnG k S1 0) by unfold turnG; exact G1.out)⟩
                  case round =>
                    clear G1
                    obtain ⟨i, rfl, hi, hgg4, hga⟩ := hrel
                    by_cases hi2 : i < 60000
                    · have e7 : (i : Int) < 60000 := by omega
                      have hlt : i % k < k := Nat.mod_lt _ (by omega)
                      have hz : ¬ ((k : Int) = 0) := by omega
                      have hzn : ¬ (k = 0) := by omega
                      have hz1 : ¬ ((k : Int) = -1) := by omega
                      have hmod : (i : Int).tmod (k : Int) = ((i % k : Nat) : Int) := by rw [Int.tmod_eq_emod_of_nonneg (by omega)]; simp
                      have HS := hide (turnG_step HLen.out (by omega) hga.out (HEnd.out.1 i hi2))
                      generalize i % k = rr at *
                      go_wp2_with fail
                      refine HS.out.mono ?_
                      rintro e w5 ⟨rfl, h1⟩
                      have H1 := hide h1
                      clear h1 HS hmod
                      go_wp2_with fail
                      go_roundg (60000 - (i + 1))
                      case measure => omega
                      case rel => exact ⟨i + 1, by go_num, by omega, Nat.le_refl _, H1.out⟩
                    · have hi3 : i = 60000 := by omega
                      have e7 : ¬ (i : Int) < 60000 := by omega
                      have HF := hide HEnd.out.2
                      have G2 := hide hga.out
                      rw [← hi3] at HF
                      clear hga HEnd
                      generalize turnG k S1 i = S2 at HF G2
                      obtain ⟨wf, hwf⟩ : ∃ wf, wf = wr := ⟨_, rfl⟩
                      subst hwf
                      go_wp2_with fail
                      go_loopg [23] 5 (fun gg s23 wr => ∃ (u : Nat), s23 = .int .i64 (u : Int) ∧ u ≤ k ∧ k - u ≤ gg ∧ Aside (wr = wf))
                      case atStart => exact ⟨0, rfl, by omega, by omega, rfl⟩
                      case round =>
                        obtain ⟨u, rfl, hu, hgg5, hwr⟩ := hrel
                        obtain ⟨⟩ := hwr.out
                        obtain ⟨Bs, gB⟩ := G2.out
                        obtain ⟨cw, cd, hh⟩ := gB.cw.head
                        by_cases hul : u < k
                        · have e8 : (u : Int) < (k : Int) := by omega
                          obtain ⟨b, hb⟩ : ∃ b, ws[u]? = some b := ⟨ws[u]'(by have := HLen.out; omega), by simp⟩
                          have c0 : wf.cell? ⟨C, 0, none⟩ = some (.slice (some ⟨gw, 0, none⟩) k cw) := by rw [cell_of_heap hh, HLen.out.1]; rfl
                          have kw := gB.cw.w_ u b hb
                          have f4 : wf.cell? ⟨b, 4, none⟩ = some (.bool true) := by
                            obtain ⟨hv, g, po, pf, _, r1, _⟩ := gB.wk u b hb
                            have h4 := r1.f 4
                            rw [HF.out.1 u hul] at h4
                            rw [h4]
                            rfl
                          clear hh gB hb
                          go_wp2_with fail
                          go_roundg (k - (u + 1))
                          case measure => omega
                          case rel => exact ⟨u + 1, by go_num, by omega, Nat.le_refl _, rfl⟩
                        · have hul' : u = k := by omega
                          subst hul'
                          have e8 : ¬ ((u : Int) < (u : Int)) := by omega
                          have c3 : wf.cell? ⟨C, 3, none⟩ = some (.int .i64 wt) := by rw [cell_of_heap hh, HF.out.2.1]; rfl
                          have HTu := hide gB.tu
                          have HQt := hide (by
                            obtain ⟨s, hsh⟩ := gB.sh
                            have hSt := HF.out.2.2
                            have hl2 := HLen.out
                            exact cquiet_any wf C gw gd a p q ws ds (QE u) S2.l s S2.dn (fun i hi => (hSt i (by omega)).2.1) (fun i hi => (hSt i (by omega)).2.2) (fun i b' hb' => ⟨_, _, gB.wk i b' hb', (hSt i (by have := (List.getElem?_eq_some_iff.1 hb').1; omega)).1⟩) gB.cw hsh)
                          clear hh gB
                          go_wp2_with fail
                          refine HQt.out.mono ?_
                          rintro e w7 ⟨rfl, h7⟩
                          have H7 := hide h7
                          clear h7 HQt
                          go_wp2_with fail
                          go_ret
                          exact ⟨rfl, HTu.out.trans H7.out⟩

end Go.Proofs.Ytokabpgdklihlaa

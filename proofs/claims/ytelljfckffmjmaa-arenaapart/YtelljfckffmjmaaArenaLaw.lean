/-
  What the laws of package arena share: many steps of an ask alone ('goA'), the laws' ends and pick.
-/
import Derived.Test.YtelljfckffmjmaaArenaStep
import Derived.Test.YtelljfckffmjmaaArenaLeft
import Derived.Test.YtelljfckffmjmaaArenaMade
import Derived.Deep.Cut
import Derived.Deep.CutBlock
import Derived.Deep.CutRange
import Derived.Deep.DeepCutAuto
import Derived.Deep.LoopGhost
namespace Go.Proofs.Ytelljfckffmjmaa
open Go.RowKit

/-- So many steps. -/
def goA (A : AC) (o : Nat) : Nat → ASt → ASt
  | 0, x => x
  | n + 1, x => stepA A o (goA A o n x)

theorem aboveOf_le (A : AC) (t : Int) : aboveOf A t ≤ A.to := by unfold aboveOf; split <;> omega
theorem above_pos {A : AC} {t n : Int} (h : ¬ aboveOf A t < n) (hn : 1 ≤ n) : 0 ≤ t ∧ t ≤ A.to ∧ aboveOf A t = A.to - t := by
  unfold aboveOf at *
  split at h
  · omega
  · rename_i hx
    rw [if_neg hx]
    omega

theorem readA_fit (A : AC) (l : List Int) (k : AkS) (hs : 1 ≤ k.size ∧ k.size ≤ 65536) :
    (readA A l k).size = k.size ∧ ((readA A l k).at_ = .swapTop → k.at_ ≠ .swapTop → 0 ≤ (readA A l k).top ∧ k.size ≤ (readA A l k).wanted ∧ (readA A l k).top + (readA A l k).wanted ≤ A.to) := by
  unfold readA
  split
  · exact ⟨rfl, fun h1 h2 => absurd h1 h2⟩
  · rename_i hx
    refine ⟨rfl, fun _ _ => ?_⟩
    obtain ⟨h1, h2, h3⟩ := above_pos hx hs.1
    simp only
    rw [h3] at hx ⊢
    unfold lg
    split
    · rename_i hg
      omega
    · rename_i hg
      simp at hg
      omega

theorem stepA_len (A : AC) (o : Nat) (x : ASt) : (stepA A o x).l.length = x.l.length ∧ (stepA A o x).bl.length = x.bl.length := by
  unfold stepA
  split
  · exact ⟨rfl, rfl⟩
  · split
    · split
      · exact ⟨rfl, rfl⟩
      · split
        · exact ⟨rfl, by simp⟩
        · split
          · exact ⟨by simp, by simp⟩
          · exact ⟨rfl, rfl⟩
    · exact ⟨rfl, rfl⟩
    · split
      · refine ⟨by simp, ?_⟩
        simp only
        split <;> simp
      · exact ⟨rfl, rfl⟩

theorem getD_set (l : List Int) (i j : Nat) (x : Int) : (l.set i x).getD j 0 = if i = j ∧ i < l.length then x else l.getD j 0 := by
  rw [List.getD_eq_getElem?_getD, List.getD_eq_getElem?_getD, List.getElem?_set]
  by_cases h : i = j
  · subst h
    rw [if_pos rfl]
    by_cases h2 : i < l.length
    · simp [h2]
    · simp [h2]
  · rw [if_neg h, if_neg (fun hh => h hh.1)]

theorem fit_step (A : AC) (o : Nat) (x : ASt) (hto : A.to ≤ x.l.length) (h : FitA A o x) : FitA A o (stepA A o x) := by
  obtain ⟨l, bl, ⟨kat, kd, ks, kt, kw, kp, ke⟩, s⟩ := x
  have b0 := h.b0
  have b1 := h.b1
  have bo := h.bo
  have rd := h.rd
  have sw := h.sw
  simp only at b0 b1 bo rd sw hto
  cases kd with
  | true => simpa [stepA] using h
  | false =>
    cases kat with
    | begin =>
      by_cases h1 : ks < 1 ∨ 65536 < ks
      · rw [show stepA A o ⟨l, bl, ⟨.begin, false, ks, kt, kw, kp, ke⟩, s⟩ = ⟨l, bl, ⟨.begin, true, ks, kt, kw, 0, 11⟩, s⟩ by simp only [stepA]; simp [h1]]
        exact ⟨b0, b1, bo, fun hh => absurd rfl hh, fun hh => by cases hh⟩
      · have hs : 1 ≤ ks ∧ ks ≤ 65536 := by omega
        by_cases h2 : ks ≤ bl.getD (o + 1) 0 - bl.getD o 0
        · rw [show stepA A o ⟨l, bl, ⟨.begin, false, ks, kt, kw, kp, ke⟩, s⟩ = ⟨l, bl.set o (bl.getD o 0 + ks), ⟨.begin, true, ks, kt, kw, bl.getD o 0, 0⟩, s⟩ by simp only [stepA]; rw [if_neg (by simp), if_neg h1, if_pos h2]]
          refine ⟨?_, ?_, by simpa using bo, fun hh => absurd rfl hh, fun hh => by cases hh⟩
          · simp only [getD_set]
            rw [if_pos ⟨trivial, by omega⟩, if_neg (by omega)]
            omega
          · simp only [getD_set]
            rw [if_neg (by omega)]
            exact b1
        · by_cases h3 : bl.getD o 0 < bl.getD (o + 1) 0 ∧ lg A ks = false
          · rw [show stepA A o ⟨l, bl, ⟨.begin, false, ks, kt, kw, kp, ke⟩, s⟩ = ⟨l.set (bl.getD o 0).toNat (headOf 0 (bl.getD (o + 1) 0 - bl.getD o 0 - 1)), (bl.set o 0).set (o + 1) 0, ⟨.readTop, false, ks, kt, kw, kp, ke⟩, wrap64 (s + 1)⟩ by simp only [stepA]; rw [if_neg (by simp), if_neg h1, if_neg h2, if_pos h3]]
            refine ⟨?_, ?_, by simpa using bo, fun _ => hs, fun hh => by cases hh⟩
            · simp only [getD_set, List.length_set]
              rw [if_neg (by omega), if_pos ⟨trivial, by omega⟩, if_pos ⟨trivial, bo⟩]
              omega
            · simp only [getD_set, List.length_set]
              rw [if_pos ⟨trivial, bo⟩]
              omega
          · rw [show stepA A o ⟨l, bl, ⟨.begin, false, ks, kt, kw, kp, ke⟩, s⟩ = ⟨l, bl, readA A l ⟨.begin, false, ks, kt, kw, kp, ke⟩, wrap64 (s + 1)⟩ by simp only [stepA]; rw [if_neg (by simp), if_neg h1, if_neg h2, if_neg h3]]
            have hr := readA_fit A l ⟨.begin, false, ks, kt, kw, kp, ke⟩ hs
            exact ⟨b0, b1, bo, fun _ => by rw [hr.1]; exact hs, fun hh => by rw [hr.1]; exact hr.2 hh (by simp)⟩
    | readTop =>
      have hs := rd (by simp)
      have hr := readA_fit A l ⟨.readTop, false, ks, kt, kw, kp, ke⟩ hs
      exact ⟨b0, b1, bo, fun _ => by show 1 ≤ (readA A l _).size ∧ (readA A l _).size ≤ 65536; rw [hr.1]; exact hs, fun hh => by show 0 ≤ (readA A l _).top ∧ (readA A l _).size ≤ (readA A l _).wanted ∧ (readA A l _).top + (readA A l _).wanted ≤ A.to; rw [hr.1]; exact hr.2 hh (by simp)⟩
    | swapTop =>
      have hs := rd (by simp)
      have ht := sw rfl
      by_cases hx : topOf A l = kt
      · rw [show stepA A o ⟨l, bl, ⟨.swapTop, false, ks, kt, kw, kp, ke⟩, s⟩ = ⟨l.set A.top (kt + kw), if lg A ks then bl else (bl.set o (kt + ks)).set (o + 1) (kt + kw), ⟨.swapTop, true, ks, kt, kw, kt, 0⟩, wrap64 (s + 1)⟩ by simp only [stepA]; rw [if_neg (by simp), if_pos hx]]
        cases lg A ks with
        | true => exact ⟨b0, by simpa using b1, bo, fun _ => hs, fun _ => ht⟩
        | false =>
          refine ⟨?_, ?_, by simpa using bo, fun _ => hs, fun _ => ht⟩
          · simp only [Bool.false_eq_true, if_false, getD_set, List.length_set]
            rw [if_neg (by omega), if_pos ⟨trivial, by omega⟩, if_pos ⟨trivial, bo⟩]
            omega
          · simp only [Bool.false_eq_true, if_false, getD_set, List.length_set]
            rw [if_pos ⟨trivial, bo⟩]
            omega
      · rw [show stepA A o ⟨l, bl, ⟨.swapTop, false, ks, kt, kw, kp, ke⟩, s⟩ = ⟨l, bl, ⟨.readTop, false, ks, kt, kw, kp, ke⟩, wrap64 (s + 1)⟩ by simp only [stepA]; rw [if_neg (by simp), if_neg hx]]
        exact ⟨b0, b1, bo, fun _ => hs, fun hh => by cases hh⟩

theorem goA_fit (A : AC) (o : Nat) (x : ASt) (hto : A.to ≤ x.l.length) (h : FitA A o x) (n : Nat) : FitA A o (goA A o n x) ∧ (goA A o n x).l.length = x.l.length := by
  induction n with
  | zero => exact ⟨h, rfl⟩
  | succ n ih => exact ⟨fit_step A o _ (by rw [ih.2]; exact hto) ih.1, by rw [goA, (stepA_len A o _).1, ih.2]⟩
theorem goA_done (A : AC) (o : Nat) (x : ASt) (K : Nat) (h : (goA A o K x).k.done = true) (j : Nat) : goA A o (K + j) x = goA A o K x := by
  induction j with
  | zero => rfl
  | succ j ih =>
    show stepA A o (goA A o (K + j) x) = _
    rw [ih, stepA_done o A h]

section
variable (w : World) (a v p q B b o : Nat) (T : TypeId) (A : AC)
set_option maxRecDepth 4000 in
theorem ends_any (x : ASt) (K : Nat) (hK : K < 90) (fit : FitA A o x) (hd : (goA A o K x).k.done = true) (h : AX w w a v p q B b T A o x) :
    Calls Try.prog 29 #[.pointer (some ⟨b, 0, none⟩)] w fun e w' => e = .returned (.tuple #[.int .i64 (goA A o K x).k.pos, .int .i64 (goA A o K x).k.errno]) ∧ AX w w' a v p q B b T A o (goA A o K x) := by
  have HF := hide (fun n => (goA_fit A o x h.ar.to fit n).1)
  have H0 := hide h
  have HD := hide hd
  clear h fit hd
  go_enter Try.func29, Try.ntmps29
  go_wp2_with fail
  go_loopg [4] 100 (fun gg i wr => ∃ j : Nat, j ≤ K ∧ gg = 100 - j ∧ i = .int .i64 j ∧ Aside (AX w wr a v p q B b T A o (goA A o j x)))
  case atStart => exact ⟨0, by omega, rfl, rfl, H0.out⟩
  case round =>
    obtain ⟨j, hj, hgg, rfl, hax⟩ := hrel
    have e1 : (j : Int) < 100 := by omega
    have HX := hide hax.out
    have HS := hide (kstep_any wr a v p q B b o T A (goA A o j x) (HF.out j) ⟨HX.out.ar, HX.out.bf, HX.out.bt, HX.out.ak, Turned.refl _ _⟩)
    clear hax
    go_wp2_with fail
    refine HS.out.mono ?_
    rintro e w2 ⟨rfl, h2⟩
    have H2 := hide (show AX w w2 a v p q B b T A o (goA A o (j + 1) x) from ⟨h2.ar, h2.bf, h2.bt, h2.ak, HX.out.tu.trans h2.tu⟩)
    rw [show stepA A o (goA A o j x) = goA A o (j + 1) x from rfl]
    clear h2 HS HX
    by_cases hdn : (goA A o (j + 1) x).k.done = true
    · have HE := hide (show goA A o (j + 1) x = goA A o K x by
        have e3 := goA_done A o x K HD.out (j + 1)
        have e4 := goA_done A o x (j + 1) hdn K
        rw [Nat.add_comm] at e3
        rw [← e4, e3])
      rw [hdn]
      rw [HE.out] at H2
      have HA := hide (kat_any w2 a B b o (goA A o K x).k H2.out.ak)
      rw [show atOf (goA A o K x).k = ((goA A o K x).k.pos, (goA A o K x).k.errno) by unfold atOf; rw [if_pos HD.out]] at HA
      clear hdn HE HD HF H0
      go_wp2_with fail
      refine HA.out.mono ?_
      rintro e w3 ⟨rfl, m, hw3⟩
      have H3 := hide (show AX w w3 a v p q B b T A o (goA A o K x) by rw [hw3]; exact H2.out.drewN m)
      clear hw3 HA H2
      go_wp2_with fail
      go_ret2
      exact ⟨rfl, H3.out⟩
    · have hdn' : (goA A o (j + 1) x).k.done = false := by simpa using hdn
      rw [hdn']
      have HJ := hide (show j + 1 ≤ K by
        by_cases hjk : j + 1 ≤ K
        · exact hjk
        · exfalso
          have e3 := goA_done A o x K HD.out (j + 1 - K)
          rw [show K + (j + 1 - K) = j + 1 by omega] at e3
          rw [e3, HD.out] at hdn'
          cases hdn')
      clear hdn hdn'
      go_wp2_with fail
      go_roundg (100 - (j + 1))
      case measure => omega
      case rel => exact ⟨j + 1, HJ.out, rfl, by go_num, H2.out⟩
end

/-- Which of n things a raw number speaks of. -/
def pickOf (c : Int) (n : Nat) : Nat := ((if c < 0 then -(c + 1) else c).tmod n).toNat
theorem pickOf_lt (c : Int) (n : Nat) (hn : 0 < n) : pickOf c n < n := by
  unfold pickOf
  generalize hx : (if c < 0 then -(c + 1) else c) = x
  have hx0 : 0 ≤ x := by rw [← hx]; split <;> omega
  have h1 := Int.tmod_nonneg (n : Int) hx0
  have h2 := Int.tmod_lt_of_pos x (b := (n : Int)) (by omega)
  omega
theorem lpick_any (c : Int) (n : Nat) (w : World) (hc : -9223372036854775808 ≤ c ∧ c ≤ 9223372036854775807) (hn : 0 < n ∧ n ≤ 1000000) :
    Calls Try.prog 14 #[.int .i64 c, .int .i64 n] w fun e w' => e = .returned (.int .i64 (pickOf c n : Nat)) ∧ w' = w := by
  have hz : ¬ ((n : Int) = 0) := by omega
  have hm1 : ¬ ((n : Int) = -1) := by omega
  have key : ∀ x : Int, 0 ≤ x → (((x.tmod n).toNat : Nat) : Int) = x.tmod n := fun x hx => Int.toNat_of_nonneg (Int.tmod_nonneg (n : Int) hx)
  by_cases hneg : c < 0
  · have HK := hide (show ((pickOf c n : Nat) : Int) = (-(c + 1)).tmod n by unfold pickOf; rw [if_pos hneg]; exact key _ (by omega))
    clear key
    generalize pickOf c n = y at *
    go_enter Try.func14, Try.ntmps14
    go_wp2_with fail
    go_ret
    refine ⟨?_, rfl⟩
    rw [HK.out, Int.neg_tmod]
    rfl
  · have HK := hide (show ((pickOf c n : Nat) : Int) = c.tmod n by unfold pickOf; rw [if_neg hneg]; exact key _ (by omega))
    clear key
    generalize pickOf c n = y at *
    go_enter Try.func14, Try.ntmps14
    go_wp2_with fail
    go_ret
    refine ⟨?_, rfl⟩
    rw [HK.out, Int.tmod_eq_emod_of_nonneg (by omega)]
    rfl
end Go.Proofs.Ytelljfckffmjmaa

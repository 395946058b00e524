/-
  Step and Result.
-/
import Derived.Test.YtdjeilombaclmaaSumsPh
import Derived.Test.YtdjeilombaclmaaSumsRow
namespace Go.Proofs.Ytdjeilombaclmaa
open Go.RowKit
set_option linter.unusedVariables false

/-- A step of whoever. -/
def SS.next (P : SP) (S : SS) (k : Int) : SS := if 0 ≤ k ∧ k < P.n then S.step P k.toNat else S
theorem ended_next {P : SP} {S : SS} {k : Int} (h : S.ended P k = true) : S.next P k = S := by
  unfold SS.next
  by_cases hk : 0 ≤ k ∧ k < P.n
  · rw [if_pos hk]
    unfold SS.step
    rw [if_neg]
    rintro ⟨h3, hg⟩
    rw [Int.toNat_of_nonneg hk.1] at hg
    unfold SS.ended at h
    rw [decide_eq_false (by omega), decide_eq_false (by omega), decide_eq_false (show ¬ S.ph = 3 by omega), hg] at h
    simp at h
  · rw [if_neg hk]
theorem not_ended {P : SP} {S : SS} {k : Int} (h : S.ended P k = false) : 0 ≤ k ∧ k < P.n ∧ S.ph ≠ 3 := by
  unfold SS.ended at h
  simp at h
  omega

theorem Inv.next {P : SP} {S : SS} (h : Inv P S) (k : Int) : Inv P (S.next P k) ∧ (S.next P k).ph ≤ 3 ∧ (S.next P k).acc ≤ S.acc + 1 := by
  have hph : S.ph ≤ 3 := by cases h.how <;> omega
  have key : Inv P (S.next P k) ∧ (S.next P k).acc ≤ S.acc + 1 := by
    unfold SS.next
    by_cases hk : 0 ≤ k ∧ k < P.n
    · rw [if_pos hk]
      by_cases hg : S.ph < 3 ∧ S.goes k.toNat = true
      · refine ⟨(h.step (by omega) hg.1 hg.2).1, ?_⟩
        unfold SS.step
        rw [if_pos hg]
        unfold SS.work SS.act SS.arrive SS.take SS.addB SS.addV SS.telV
        (repeat' split) <;> simp_all
      · unfold SS.step
        rw [if_neg hg]
        exact ⟨h, by omega⟩
    · rw [if_neg hk]
      exact ⟨h, by omega⟩
  exact ⟨key.1, by cases key.1.how <;> omega, key.2⟩

theorem swork_any (w : World) (I : SIds) (P : SP) (S : SS) (h : Sm w I P S) (hP : P.ok) (hI : Inv P S) (k b : Nat) (W : SW) (hb : I.wk[k]? = some b) (hW : S.wk[k]? = some W) (hk : k < P.n) (hg : (k : Int) ∉ S.ws.take S.came) (ha : S.acc < 100000000) (h3 : S.ph < 3) :
    Calls Try.prog 28 #[ptr I.s, ptr b] w fun e w' => e = .returned (.tuple #[]) ∧ Sm w' I P (S.work P k W) ∧ Turned I.hot w w' := by
  have hc : S.ph = 0 ∨ S.ph = 1 ∨ S.ph = 2 := by omega
  rcases hc with hc | hc | hc
  · exact swork0 w I P S h hP hI k b W hb hW hk hg ha hc
  · exact swork1 w I P S h hP hI k b W hb hW hk hg ha hc
  · exact swork2 w I P S h hP hI k b W hb hW hk hg ha hc

set_option maxRecDepth 100000 in
theorem sstep_any (w : World) (I : SIds) (P : SP) (S : SS) (h : Sm w I P S) (hP : P.ok) (hI : Inv P S) (k : Int) (hk : -9223372036854775808 ≤ k ∧ k ≤ 9223372036854775807) (ha : S.acc < 100000000) :
    Calls Try.prog 17 #[ptr I.s, .int .i64 k] w fun e w' => e = .returned (.int .i64 (if (S.next P k).ended P k then 2 else 0)) ∧ Sm w' I P (S.next P k) ∧ Turned I.hot w w' := by
  have hph : S.ph ≤ 3 := by cases hI.how <;> omega
  have HN := hide (sended_any w I P S h hP hph k hk)
  have H := hide h
  cases hen : S.ended P k with
  | true =>
    rw [hen] at HN
    rw [ended_next hen, hen, if_pos rfl]
    clear h hI
    unfold ptr at *
    go_enter Try.func17, Try.ntmps17
    go_wp2_with fail
    refine HN.out.mono ?_
    rintro e w1 ⟨rfl, t1⟩
    have T1 := hide t1
    clear t1 HN
    go_wp2_with fail
    go_ret
    exact ⟨rfl, H.out.next T1.out, T1.out.mono (fun _ hm => by simp at hm)⟩
  | false =>
    rw [hen] at HN
    obtain ⟨k0, kn, h3⟩ := not_ended hen
    obtain ⟨j, rfl⟩ := Int.eq_ofNat_of_zero_le k0
    have hj : j < P.n := by omega
    have hn64 := hP.n
    have HG := hide (fun w' (t : Turned [] w w') => ggoes_any w' I.gp I.gq _ _ _ (j : Int) (H.out.next t).gang)
    have HC := hide (fun w' (t : Turned [] w w') => (H.out.next t).c0)
    have HX := hide (show S.next P (j : Int) = S.step P j by unfold SS.next; rw [if_pos ⟨k0, kn⟩, Int.toNat_natCast])
    have HPH := hide (hI.next (j : Int)).2.1
    have HE2 := hide (fun w' h' => sended_any w' I P (S.next P (j : Int)) h' hP HPH.out (j : Int) hk)
    obtain ⟨bw, hbw⟩ : ∃ bw, I.wk[j]? = some bw := ⟨_, List.getElem?_eq_getElem (by have := h.wlen.1; omega)⟩
    have HB := hide hbw
    have HWK := hide (show S.wk[j]? = some (S.wk.getD j ⟨0, 0, 0⟩) by
      have := h.wlen.2
      rw [List.getD_eq_getElem?_getD, List.getElem?_eq_getElem (by omega)]; rfl)
    have HI := hide hI
    have hgd : decide ((j : Int) ∈ S.ws.drop S.came) = S.goes (j : Int) := rfl
    rw [hgd] at HG
    clear hgd h hbw hI
    unfold ptr at HN HG HE2 ⊢
    cases hgo : S.goes (j : Int) with
    | true =>
      rw [hgo] at HG
      have HST := hide (show S.step P j = S.work P j (S.wk.getD j ⟨0, 0, 0⟩) by unfold SS.step; rw [if_pos ⟨by omega, hgo⟩])
      have HWO := hide (fun w' (t : Turned [] w w') => swork_any w' I P S (H.out.next t) hP HI.out j bw _ HB.out HWK.out hj ((goes_iff HI.out.gi hj).1 hgo) ha (by omega))
      unfold ptr at HWO
      rw [← HST.out, ← HX.out] at HWO
      generalize S.next P (j : Int) = S' at *
      generalize S'.ended P (j : Int) = q at *
      go_enter Try.func17, Try.ntmps17
      go_wp2_with fail
      refine HN.out.mono ?_
      rintro e w1 ⟨rfl, t1⟩
      have T1 := hide t1
      have c0 := HC.out w1 t1
      have HG1 := hide (HG.out w1 t1)
      clear t1 HN HC HG
      go_wp2_with fail
      refine HG1.out.mono ?_
      rintro e w2 ⟨rfl, m, hm⟩
      have T2 := hide (show Turned [] w w2 by rw [hm]; exact T1.out.drewN m)
      clear hm HG1 T1 c0
      have H2 := hide (H.out.next T2.out)
      have c2 := H2.out.c2
      have cw := H2.out.wrc HB.out
      have HWO2 := hide (HWO.out _ T2.out)
      clear HWO H2
      go_wp2_with fail
      refine HWO2.out.mono ?_
      rintro e w3 ⟨rfl, h3', t3⟩
      have H3 := hide h3'
      have T3 := hide ((T2.out.mono (T := I.hot) (fun _ hm => by simp at hm)).trans t3)
      have HE3 := hide (HE2.out w3 h3')
      clear h3' t3 HWO2 T2 c2 cw HE2
      go_wp2_with fail
      refine HE3.out.mono ?_
      rintro e w4 ⟨rfl, t4⟩
      have H4 := hide (H3.out.next t4)
      have T4 := hide (T3.out.trans (t4.mono (fun _ hm => by simp at hm)))
      clear t4 H3 T3 HE3
      cases q with
      | true =>
        go_wp2_with fail
        go_ret
        exact ⟨rfl, H4.out, T4.out⟩
      | false =>
        go_wp2_with fail
        go_ret
        exact ⟨rfl, H4.out, T4.out⟩
    | false =>
      rw [hgo] at HG
      have HST := hide (show S.next P (j : Int) = S by rw [HX.out]; unfold SS.step; rw [if_neg (by rw [hgo]; simp)])
      rw [HST.out] at HE2 ⊢
      rw [hen, if_neg (by simp)]
      go_enter Try.func17, Try.ntmps17
      go_wp2_with fail
      refine HN.out.mono ?_
      rintro e w1 ⟨rfl, t1⟩
      have T1 := hide t1
      have c0 := HC.out w1 t1
      have HG1 := hide (HG.out w1 t1)
      clear t1 HN HC HG
      go_wp2_with fail
      refine HG1.out.mono ?_
      rintro e w2 ⟨rfl, m, hm⟩
      have T2 := hide (show Turned [] w w2 by rw [hm]; exact T1.out.drewN m)
      clear hm HG1 T1 c0
      have HE3 := hide (HE2.out w2 (H.out.next T2.out))
      rw [hen] at HE3
      clear HE2
      go_wp2_with fail
      refine HE3.out.mono ?_
      rintro e w4 ⟨rfl, t4⟩
      have T4 := hide (T2.out.trans t4)
      clear t4 T2 HE3
      go_wp2_with fail
      go_ret
      exact ⟨rfl, H.out.next T4.out, T4.out.mono (fun _ hm => by simp at hm)⟩

set_option maxRecDepth 100000 in
theorem sresult_any (w : World) (I : SIds) (P : SP) (S : SS) (h : Sm w I P S) (hP : P.ok) (hI : Inv P S) :
    Calls Try.prog 18 #[ptr I.s] w fun e w' => (S.ph ≠ 3 ∧ e = .returned (.tuple #[.slice none 0 0, .int .i64 0, .int .i64 16]) ∨ S.ph = 3 ∧ ∃ ao c, e = .returned (.tuple #[.slice ao P.len c, .int .i64 (wrap64 (pre P.vals P.len)), .int .i64 0]) ∧ IRd w' ao P.len (preL P.vals) ∧ New w' w.heap.size ao) ∧ Turned [] w w' := by
  have hph : S.ph ≤ 3 := by cases hI.how <;> omega
  have HN := hide (snone_sums w I P S h hP)
  have HD := hide (sdone_any w I P S h hP hph)
  have H := hide h
  unfold ptr at *
  by_cases h3 : S.ph = 3
  · rw [decide_eq_true h3] at HD
    obtain ⟨had, htt⟩ : S.ah = preL P.vals ∧ S.tot = wrap64 (pre P.vals P.len) := by
      cases hI.how with
      | over ph ah tt => exact ⟨preL_ext h.ahl ah, tt⟩
      | first ph => omega
      | mid ph => omega
      | last ph => omega
    have HCL := hide (fun w' (t : Turned [] w w') => clone_any w' (some ⟨I.ab, 0, none⟩) P.len P.len (preL P.vals) ⟨by rw [preL_len]; rfl, fun i x hx => ⟨I.ab, 0, rfl, by rw [Nat.zero_add]; exact (H.out.next t).ac (by rw [had]; exact hx)⟩⟩ hP.len (fun h => by cases h))
    have HC8 := hide (fun w' (t : Turned [] w w') => (H.out.next t).c8)
    have HC7 := hide (fun w' (t : Turned [] w w') => (H.out.next t).c7)
    rw [htt] at HC7
    clear h hI
    go_enter Try.func18, Try.ntmps18
    go_wp2_with fail
    refine HN.out.mono ?_
    rintro e w1 ⟨rfl, rfl⟩
    clear HN
    go_wp2_with fail
    refine HD.out.mono ?_
    rintro e w2 ⟨rfl, t2⟩
    have T2 := hide t2
    have c8 := HC8.out _ t2
    have c7 := HC7.out _ t2
    clear HD t2
    go_wp2_with fail
    go_region_held3 (fun w' => w'.cell? ⟨I.s, 8, none⟩ = some (.slice (some ⟨I.ab, 0, none⟩) P.len P.len) ∧ w'.cell? ⟨I.s, 7, none⟩ = some (.int .i64 (wrap64 (pre P.vals P.len)))) (go_keep)
      (first
        | (go_at_call 23; refine (HCL.out _ T2.out.drew).mono ?_; rintro e w3 ⟨ao, cp, rfl, r3, n3, -, t3⟩; have T3 := hide (T2.out.drew.trans t3); have R3 := hide r3; have N3 := hide n3; have j8 := HC8.out _ T3.out; have j7 := HC7.out _ T3.out; clear r3 n3 t3))
    go_wp2_with fail
    go_ret3
    have hs := T2.out.size
    refine ⟨.inr ⟨h3, ao, cp, rfl, R3.out, fun a ha => ⟨Nat.le_trans hs (N3.out a ha).1, (N3.out a ha).2⟩⟩, T3.out⟩
  · rw [decide_eq_false h3] at HD
    clear h hI
    go_enter Try.func18, Try.ntmps18
    go_wp2_with fail
    refine HN.out.mono ?_
    rintro e w1 ⟨rfl, rfl⟩
    clear HN
    go_wp2_with fail
    refine HD.out.mono ?_
    rintro e w2 ⟨rfl, t2⟩
    have T2 := hide t2
    clear HD t2
    go_wp2_with fail
    go_ret3
    exact ⟨.inl ⟨h3, rfl⟩, T2.out⟩
end Go.Proofs.Ytdjeilombaclmaa

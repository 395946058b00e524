/-
  Run of package deque: steps by turns; and 'done' of the laws: one operation to its end.
-/
import Derived.Test.YtokabpgdklihlaaDequeStep
import Derived.Test.YtokabpgdklihlaaDequeRows
import Derived.Test.YtokabpgdklihlaaDequePure
namespace Go.Proofs.Ytokabpgdklihlaa
open Go.RowKit

theorem PR.less {w : World} {g n n' : Nat} {xs : List (Option Nat)} (h : PR w g n xs) (hn : n' ≤ n) : PR w g n' xs := ⟨h.at_, fun i hi => h.there i (by omega), h.fz, h.lt⟩

/-- A deque and the operations at it (by their blocks). -/
structure Al (w : World) (d p q : Nat) (C : Cfg) (l : List Int) (s : Int) (bs : List Nat) (m : Nat → OpS) : Prop where
  dq : Dq w d p q C l s
  ops : ∀ b, b ∈ bs → OpB w b d (m b)
  ne : ∀ b, b ∈ bs → b ≠ d ∧ b ≠ p ∧ b ≠ q

section
variable {w : World} {d p q : Nat} {C : Cfg} {l : List Int} {s : Int} {bs : List Nat} {m : Nat → OpS}
theorem Al.turned (h : Al w d p q C l s bs m) {S : List Nat} {w' : World} (t : Turned S w w') (hd : d ∉ S) (hp : p ∉ S) (hq : q ∉ S) (hb : ∀ b, b ∈ bs → b ∉ S) : Al w' d p q C l s bs m :=
  ⟨h.dq.turned t hd hp hq, fun b hm => (h.ops b hm).turned t (hb b hm), h.ne⟩
theorem Al.turned0 (h : Al w d p q C l s bs m) {w' : World} (t : Turned [] w w') : Al w' d p q C l s bs m := h.turned t (by simp) (by simp) (by simp) (by simp)
theorem Al.step (h : Al w d p q C l s bs m) {w' : World} {l' : List Int} {s' : Int} {b : Nat} {o' : OpS} (hd : Dq w' d p q C l' s') (ho : OpB w' b d o') (t : Turned [p, q, b] w w') : Al w' d p q C l' s' bs (upd m b o') := by
  refine ⟨hd, fun c hc => ?_, h.ne⟩
  unfold upd
  split
  · rename_i e; subst e; exact ho
  · rename_i e
    exact (h.ops c hc).turned t (by simp; exact ⟨(h.ne c hc).2.1, (h.ne c hc).2.2, e⟩)
end

theorem Try.infoOp : (Try.prog.info? 41).map (fun i => (i.zero, i.size, i.bytes)) = some (some (.pointer none), 1, 8) := by kernel_rfl

theorem clone_ops (b off n c : Nat) (l : List (Option Nat)) (w : World) (hl : l.length = n) (hn : n ≤ 65536) (hc : ∀ i x, l[i]? = some x → w.cell? ⟨b, off + i, none⟩ = some (pv x)) (h0 : 0 < n) :
    Calls Try.prog 28 #[.slice (some ⟨b, off, none⟩) n c] w fun e w' => ∃ v, e = .returned v ∧ w'.ownsRow w.heap.size 41 1 v n (l.map pv) ∧ Turned [] w w' := by
  have und : Try.prog.underlying 68 = some (.slice 41) := by kernel_rfl
  have heq := fun w => Lib.run_eql_slice_nil (P := Try.prog) w 68 41 (some ⟨b, off, none⟩) n c 0 0 und
  have hbs : ∀ w : World, (Instr.buildSlice 68 0 #[]).run Try.prog w = .ok (.slice (some ⟨w.heap.size, 0, none⟩) 0 0) (w.alloc (.cells #[] 41)) := fun _ => by kernel_rfl
  have hcl : ∀ j u, (l.map pv)[j]? = some u → (w.alloc (.cells #[] 41)).cell? (Addr.add ⟨b, off, none⟩ j) = some u := by
    intro j u hu
    rw [List.getElem?_map] at hu
    obtain ⟨x, hx, rfl⟩ := Option.map_eq_some_iff.1 hu
    have h1 := hc j x hx
    have h2 := block_lt h1
    rw [show Addr.add ⟨b, off, none⟩ j = ⟨b, off + j, none⟩ by simp [Addr.add]]
    rw [World.cell?_of_block (w := w) (Below.heap_alloc _ _ _ h2)]
    exact h1
  have HC : Hid (∀ j u, (l.map pv)[j]? = some u → (w.alloc (.cells #[] 41)).cell? (Addr.add ⟨b, off, none⟩ j) = some u) := hcl
  have HL : Hid (l.length = n) := hl
  clear hc hl hcl
  obtain ⟨i0, hi, hi0⟩ := Option.map_eq_some_iff.1 Try.infoOp
  simp only [Prod.mk.injEq] at hi0
  obtain ⟨hz0, hz1, hz2⟩ := hi0
  go_enter Try.func28, Try.ntmps28
  go_wp2_with (at_builtin; (refine wpList_append_grows _ rfl _ _ 68 rfl 41 i0 (.pointer none) 1 8 und hi hz0 hz1 hz2 rfl (by decide) (some ⟨w.heap.size, 0, none⟩) 0 0 [] rfl (by intro h; cases h) rfl (by intro b hb j u hu; simp at hu) ⟨b, off, none⟩ n c (l.map pv) rfl (by simp [Hid.out HL]) HC.out (by intro u hu; obtain ⟨x, _, rfl⟩ := List.mem_map.1 hu; cases x <;> rfl) (by omega) (by unfold maxLen; omega) (by omega) ?_); intro v' w3 hown hgr)
  go_ret
  simp only [Nat.zero_add, List.nil_append] at hown
  exact ⟨_, rfl, ownsRow_mono hown (by simp), ((Turned.refl _ _).alloc _).grown hgr (fun k hk => by cases hk)⟩

section
variable (w : World) (d p q g cap : Nat) (C : Cfg) (l : List Int) (s : Int) (bs : List Nat) (m : Nat → OpS) (ps : List (Option Nat))

theorem Al.done (h : Al w d p q C l s bs m) (x : Option Nat) (hx : ∀ b, x = some b → b ∈ bs) :
    Calls Try.prog 44 #[pv x] w fun e w' => e = .returned (.bool (dnOf m x)) ∧ w' = w := by
  cases x with
  | none => exact done_nil w
  | some b => exact done_any w d b (m b) (h.ops b (hx b rfl))

set_option maxRecDepth 4000 in
theorem round_any (n0 : Nat) (hn0 : n0 ≤ 100000) (N : Int) (hN : N + 65536 ≤ 4611686018427387904) (hl : ps.length ≤ 65536) (hb : ∀ b, some b ∈ ps → b ∈ bs) (hg : g ∉ bs ∧ g ≠ p ∧ g ≠ q) (n : Nat) (h : Al w d p q C l s bs m) (hp : PR w g n ps) (hf : FitAll C ⟨l, m, n0⟩ bs N) :
    Calls Try.prog 29 #[.slice (some ⟨g, 0, none⟩) ps.length cap, .int .i64 (100000 - (n0 : Int))] w fun e w' => e = .returned (.int .i64 ((roundR C ps ⟨l, m, n0⟩).n - (n0 : Int))) ∧ (∃ s', Al w' d p q C (roundR C ps ⟨l, m, n0⟩).l s' bs (roundR C ps ⟨l, m, n0⟩).m) ∧ Turned (p :: q :: bs) w w' ∧ FitAll C (roundR C ps ⟨l, m, n0⟩) bs (N + ps.length) := by
  have HA := hide h
  have HP := hide hp
  have HF := hide hf
  have HB := hide hb
  have HG := hide hg
  clear h hp hf hb hg
  go_enter Try.func29, Try.ntmps29
  go_wp2_with fail
  go_loopg [5, 7, 10] ps.length (fun gg s5 _ s10 wr => ∃ (i k : Nat), s5 = .int .i64 (k : Int) ∧ s10 = .int .i64 (i : Int) ∧ i ≤ ps.length ∧ ps.length - i ≤ gg ∧ k ≤ 100000 - n0 ∧ Aside ((roundR C (ps.take i) ⟨l, m, n0⟩).n = n0 + k) ∧ Aside (∃ s', Al wr d p q C (roundR C (ps.take i) ⟨l, m, n0⟩).l s' bs (roundR C (ps.take i) ⟨l, m, n0⟩).m) ∧ Aside (Turned (p :: q :: bs) w wr) ∧ Aside (FitAll C (roundR C (ps.take i) ⟨l, m, n0⟩) bs (N + i)))
  case atStart =>
    exact ⟨0, 0, rfl, rfl, by omega, by omega, by omega, rfl, ⟨s, HA.out⟩, Turned.refl _ _, fun b hb => (HF.out b hb).mono (by omega)⟩
  case round =>
    obtain ⟨i, k, rfl, rfl, hi, hgg, hk, hnk, hal, htu, hfit⟩ := hrel
    obtain ⟨s1, hal⟩ := hal.out
    have HAL := hide hal
    clear hal
    by_cases hlt : i < ps.length
    · have hltz : (i : Int) < (ps.length : Int) := by omega
      obtain ⟨x, hx⟩ : ∃ x, ps[i]? = some x := ⟨_, List.getElem?_eq_getElem hlt⟩
      have hgt : g ∉ p :: q :: bs := by
        have := HG.out
        simp [this.1, this.2.1, this.2.2]
      have hpr := HP.out.turned htu.out hgt
      have hc := hpr.at_ i x hx
      have hxb : ∀ b, x = some b → b ∈ bs := fun b e => HB.out b (by rw [← e]; exact List.mem_of_getElem? hx)
      have HXB := hide hxb
      have hstep : roundR C (ps.take (i + 1)) ⟨l, m, n0⟩ = turn C (roundR C (ps.take i) ⟨l, m, n0⟩) x := by
        unfold roundR
        rw [List.take_add_one, hx, List.foldl_append]
        rfl
      have HST := hide hstep
      have HDN := hide (Al.done wr d p q C _ s1 bs _ HAL.out x hxb)
      have HFT := hide (fit_turn C _ bs (N + i) x hxb hfit.out)
      clear hpr hxb hstep hx hgt
      generalize roundR C (ps.take i) ⟨l, m, n0⟩ = r at *
      by_cases hlim : k < 100000 - n0
      · have hlz : (k : Int) < 100000 - (n0 : Int) := by omega
        cases hdx : dnOf r.m x with
        | true =>
          have HE := hide (turn_skip C r x hdx)
          rw [hdx] at HDN
          obtain ⟨vx, hvx⟩ : ∃ a, pv x = .pointer a := by cases x <;> exact ⟨_, rfl⟩
          rw [hvx] at hc HDN
          clear hvx hdx
          go_wp2_with (go_at_call 44; refine HDN.out.mono ?_; rintro e w' ⟨rfl, rfl⟩)
          go_roundg (ps.length - (i + 1))
          case measure => omega
          case rel =>
            refine ⟨i + 1, k, rfl, by go_num, by omega, Nat.le_refl _, hk, ?_, ?_, htu, ?_⟩
            · rw [HST.out, HE.out]; exact hnk
            · rw [HST.out, HE.out]; exact ⟨s1, HAL.out⟩
            · rw [HST.out]
              have := HFT.out
              rw [show (N + (i : Int) + 1) = N + ((i + 1 : Nat) : Int) by omega] at this
              exact this
        | false =>
          cases x with
          | none => simp [dnOf] at hdx
          | some b =>
            have hbm := HXB.out b rfl
            have hfb := hfit.out b hbm
            have hd' : (r.m b).done = false := hdx
            have HS := hide (step_any wr d p q b C r.l s1 (N + i) (by omega) (r.m b) hfb (HAL.out.ne b hbm) HAL.out.dq (HAL.out.ops b hbm))
            have HE : Hid (turn C r (some b) = ⟨(stepOf C r.l (r.m b)).1, upd r.m b (stepOf C r.l (r.m b)).2, r.n + 1⟩) := by
              have hn : r.n < 100000 := by have := hnk.out; omega
              simp [turn, hn, hd', Hid]
            have HBM := hide hbm
            rw [hdx] at HDN
            clear hdx hd' hbm hfb
            change wr.cell? _ = some (.pointer (some ⟨b, 0, none⟩)) at hc
            have HDN' : Hid (Calls Try.prog 44 #[.pointer (some ⟨b, 0, none⟩)] wr fun e w' => e = .returned (.bool false) ∧ w' = wr) := HDN
            clear HDN
            generalize stepOf C r.l (r.m b) = R at *
            generalize hdd : R.2.done = dd at HS
            clear hdd
            go_wp2_with (first | (go_at_call 44; refine HDN'.out.mono ?_; rintro e w' ⟨rfl, rfl⟩) | (go_at_call 24; refine HS.out.mono ?_; rintro e w2 ⟨rfl, h1, h2, h3⟩; have H1 := hide h1; have H2 := hide h2; have H3 := hide h3; clear h1 h2 h3))
            go_roundg (ps.length - (i + 1))
            case measure => omega
            case rel =>
              refine ⟨i + 1, k + 1, by go_num, by go_num, by omega, Nat.le_refl _, by omega, ?_, ?_, ?_, ?_⟩
              · rw [HST.out, HE.out]
                show r.n + 1 = _
                have := hnk.out
                omega
              · rw [HST.out, HE.out]
                exact ⟨_, HAL.out.step H1.out H2.out H3.out⟩
              · exact htu.out.trans (H3.out.mono (by intro c hc; simp at hc; rcases hc with rfl | rfl | rfl <;> simp [HBM.out]))
              · rw [HST.out]
                have := HFT.out
                rw [show (N + (i : Int) + 1) = N + ((i + 1 : Nat) : Int) by omega] at this
                exact this
      · have hlz : ¬ (k : Int) < 100000 - (n0 : Int) := by omega
        have HE : Hid (turn C r x = r) := by
          have hn : ¬ r.n < 100000 := by have := hnk.out; omega
          cases x <;> simp [turn, hn, Hid]
        obtain ⟨vx, hvx⟩ : ∃ a, pv x = .pointer a := by cases x <;> exact ⟨_, rfl⟩
        rw [hvx] at hc
        clear hvx HDN
        go_wp2_with fail
        go_roundg (ps.length - (i + 1))
        case measure => omega
        case rel =>
          refine ⟨i + 1, k, rfl, by go_num, by omega, Nat.le_refl _, hk, ?_, ?_, htu, ?_⟩
          · rw [HST.out, HE.out]; exact hnk
          · rw [HST.out, HE.out]; exact ⟨s1, HAL.out⟩
          · rw [HST.out]
            have := HFT.out
            rw [show (N + (i : Int) + 1) = N + ((i + 1 : Nat) : Int) by omega] at this
            exact this
    · have hltz : ¬ (i : Int) < (ps.length : Int) := by omega
      have e : i = ps.length := by omega
      subst e
      rw [List.take_length] at hnk HAL hfit
      go_wp2_with fail
      go_ret
      have := hnk.out
      refine ⟨?_, ⟨s1, HAL.out⟩, htu.out, hfit.out⟩
      rw [this]
      show Ending.returned (Value.int .i64 (k : Int)) = _
      rw [show ((n0 + k : Nat) : Int) - (n0 : Int) = (k : Int) by omega]

set_option maxRecDepth 4000 in
theorem run_any (a : Nat) (off c n : Nat) (N : Int) (hN : N ≤ 1099511627776) (hl : ps.length = n) (hn : 0 < n ∧ n ≤ 65536) (hb : ∀ b, some b ∈ ps → b ∈ bs) (hbl : ∀ i x, ps[i]? = some x → w.cell? ⟨a, off + i, none⟩ = some (pv x)) (h : Al w d p q C l s bs m) (hf : FitAll C ⟨l, m, 0⟩ bs N) :
    Calls Try.prog 13 #[.pointer (some ⟨d, 0, none⟩), .slice (some ⟨a, off, none⟩) n c] w fun e w' => ∃ k, e = .returned (.int .i64 ((rounds C ps k ⟨l, m, 0⟩).n : Int)) ∧ ((∀ x, x ∈ ps → dnOf (rounds C ps k ⟨l, m, 0⟩).m x = true) ∨ 100000 ≤ (rounds C ps k ⟨l, m, 0⟩).n) ∧ (∃ s', Al w' d p q C (rounds C ps k ⟨l, m, 0⟩).l s' bs (rounds C ps k ⟨l, m, 0⟩).m) ∧ Turned (p :: q :: bs) w w' := by
  have HA := hide h
  have HF := hide hf
  have HB := hide hb
  have HL := hide hl
  have HC := hide (clone_ops a off n c ps w hl hn.2 hbl hn.1)
  have HN := hide (dnone_any w d p q C l s h.dq)
  have hpb : p < w.heap.size ∧ q < w.heap.size ∧ d < w.heap.size := ⟨h.dq.mem.ltp, h.dq.mem.ltq, h.dq.ltd⟩
  have HPB := hide hpb
  clear h hf hb hbl hl hpb
  go_enter Try.func13, Try.ntmps13
  go_wp2_with fail
  refine HN.out.mono ?_
  rintro e w0 ⟨rfl, rfl⟩
  clear HN
  go_wp2_with fail
  refine HC.out.mono ?_
  rintro e w1 ⟨v, rfl, ho, ht⟩
  obtain ⟨g, cap, rfl, hg1, hg2, hcap, hcell, hfz, -⟩ := ownsRow_open ho hn.1
  have hpr : PR w1 g n ps := ⟨fun i x hx => hcell i (pv x) (by rw [List.getElem?_map, hx]; rfl), fun i hi => by
    obtain ⟨x, hx⟩ : ∃ x, ps[i]? = some x := ⟨_, List.getElem?_eq_getElem (by rw [HL.out]; exact hi)⟩
    rw [hcell i (pv x) (by rw [List.getElem?_map, hx]; rfl)]; rfl, hfz, hg2⟩
  have hal1 := HA.out.turned0 ht
  have hgn : g ∉ bs ∧ g ≠ p ∧ g ≠ q ∧ g ≠ d := by
    have := HPB.out
    refine ⟨fun hm => ?_, by omega, by omega, by omega⟩
    have := (HA.out.ops g hm).lt
    omega
  have hG : ∀ {S : List Nat} {wa wb : World}, Turned (p :: q :: bs) w0 wa → Turned [g] wa wb → Turned (p :: q :: bs) w0 wb := fun h1 h2 => h1.trans_new h2 (fun i hi => by simp at hi; subst hi; right; exact hg1)
  have HU := hide (undone_any w1 g cap n ps (dnOf m) HL.out hn.2 hcap hpr (fun x hx W hW => Al.done W d p q C l s bs m (hal1.turned hW (by simp; exact Ne.symm hgn.2.2.2) (by simp; exact Ne.symm hgn.2.1) (by simp; exact Ne.symm hgn.2.2.1) (fun b hb => by simp; rintro rfl; exact hgn.1 hb)) x (fun b e => HB.out b (by rw [← e]; exact hx))))
  have HA1 := hide hal1
  have HT1 := hide (ht.mono (T := p :: q :: bs) (by simp))
  have HGN := hide hgn
  have HGG := hide hg1
  clear hcell hfz ho hpr hal1 hgn hG ht HC hg1
  go_wp2_with fail
  refine HU.out.mono ?_
  rintro e w2 ⟨rfl, hpr2, ht2⟩
  have HP2 := hide hpr2
  have HT2 := hide (HT1.out.trans_new ht2 (fun i hi => by simp at hi; subst hi; right; exact HGG.out))
  have HA2 := hide (HA1.out.turned ht2 (by simp; exact Ne.symm HGN.out.2.2.2) (by simp; exact Ne.symm HGN.out.2.1) (by simp; exact Ne.symm HGN.out.2.2.1) (fun b hb => by simp; rintro rfl; exact HGN.out.1 hb))
  clear hpr2 ht2 HU HT1 HA1
  generalize hK : (keptTo (dnOf m) ps n).length = L0 at *
  have HK := hide hK
  have hL0 : L0 ≤ n := by rw [← hK]; exact keptTo_le _ _ _
  clear hK
  go_wp2_with fail
  go_loopg [5, 6] 100001 (fun gg s5 s6 wr => ∃ (j k L : Nat), s5 = .int .i64 (k : Int) ∧ s6 = .slice (some ⟨g, 0, none⟩) L cap ∧ L ≤ n ∧ k ≤ 100000 ∧ 100001 - k ≤ gg ∧ j ≤ k ∧ Aside ((rounds C ps j ⟨l, m, 0⟩).n = k) ∧ Aside ((keptTo (dnOf (rounds C ps j ⟨l, m, 0⟩).m) ps n).length = L) ∧ Aside (PR wr g L (keptTo (dnOf (rounds C ps j ⟨l, m, 0⟩).m) ps n)) ∧ Aside (∃ s', Al wr d p q C (rounds C ps j ⟨l, m, 0⟩).l s' bs (rounds C ps j ⟨l, m, 0⟩).m) ∧ Aside (Turned (p :: q :: bs) w0 wr) ∧ Aside (FitAll C (rounds C ps j ⟨l, m, 0⟩) bs (N + (j : Int) * 65536)))
  case atStart =>
    exact ⟨0, 0, L0, rfl, rfl, hL0, by omega, by omega, by omega, rfl, HK.out, HP2.out.less hL0, ⟨s, HA2.out⟩, HT2.out, fun b hb => (HF.out b hb).mono (by omega)⟩
  case round =>
    obtain ⟨j, k, L, rfl, rfl, hLn, hk, hgg, hjk, hrn, hrL, hpr, hal, htu, hfit⟩ := hrel
    obtain ⟨s1, hal⟩ := hal.out
    have HAL := hide hal
    clear hal
    have HRS := hide (rounds_succ C ps j ⟨l, m, 0⟩)
    generalize hr : rounds C ps j ⟨l, m, 0⟩ = r at *
    have HR := hide hr
    clear hr
    by_cases hgo : 0 < L ∧ k < 100000
    · obtain ⟨hL0', hk1⟩ := hgo
      have e0 : (0 : Int) < (L : Int) := by omega
      have e1 : (k : Int) < 100000 := by omega
      have HRR : Hid (Calls Try.prog 29 #[.slice (some ⟨g, 0, none⟩) L cap, .int .i64 (100000 - (k : Int))] wr fun e w' => e = .returned (.int .i64 ((roundR C ps r).n - (k : Int))) ∧ (∃ s', Al w' d p q C (roundR C ps r).l s' bs (roundR C ps r).m) ∧ Turned (p :: q :: bs) wr w' ∧ FitAll C (roundR C ps r) bs (N + ((j + 1 : Nat) : Int) * 65536)) := by
        have h1 := round_any wr d p q g cap C r.l s1 bs r.m (keptTo (dnOf r.m) ps n) k hk (N + (j : Int) * 65536) (by omega) (by have := keptTo_le (dnOf r.m) ps n; omega) (fun b hb => HB.out b (by
          unfold keptTo at hb
          exact List.mem_of_mem_take (List.mem_filter.1 hb).1)) ⟨HGN.out.1, HGN.out.2.1, HGN.out.2.2.1⟩ L HAL.out hpr.out (by have := hfit.out; exact this)
        have e : (⟨r.l, r.m, k⟩ : Rs) = r := by have := hrn.out; cases r; cases this; rfl
        have e2 : keptTo (dnOf r.m) ps n = ps.filter (fun x => !dnOf r.m x) := by unfold keptTo; rw [List.take_of_length_le (by rw [HL.out]; exact Nat.le_refl _)]
        rw [e, e2, round_filter C ps (dnOf r.m) r (fun x _ hx => hx), ← e2, hrL.out] at h1
        refine h1.mono ?_
        rintro e w' ⟨rfl, h2, h3, h4⟩
        exact ⟨rfl, h2, h3, fun b hb => (h4 b hb).mono (by omega)⟩
      have hmore : k < (roundR C ps r).n ∧ (roundR C ps r).n ≤ 100000 := by
        have h1 := hrn.out
        have h2 := (round_n C ps r).2.2 (by omega)
        refine ⟨?_, h2⟩
        have h3 : ∃ x, x ∈ keptTo (dnOf r.m) ps n := by
          have := hrL.out
          cases hq : keptTo (dnOf r.m) ps n with
          | nil => rw [hq] at this; simp at this; omega
          | cons x xs => exact ⟨x, by simp⟩
        obtain ⟨x, hx⟩ := h3
        unfold keptTo at hx
        have h4 := List.mem_filter.1 hx
        have := round_more C ps r x (List.mem_of_mem_take h4.1) (by simpa using h4.2) (by omega)
        omega
      have HKK : Hid (∀ m2 : Nat → OpS, (∀ x, dnOf r.m x = true → dnOf m2 x = true) → keptTo (dnOf m2) (keptTo (dnOf r.m) ps n) L = keptTo (dnOf m2) ps n) := by
        intro m2 hm
        have e1 : (keptTo (dnOf r.m) ps n).take L = keptTo (dnOf r.m) ps n := List.take_of_length_le (by rw [hrL.out]; exact Nat.le_refl _)
        show ((keptTo (dnOf r.m) ps n).take L).filter _ = _
        rw [e1]
        unfold keptTo
        rw [List.filter_filter]
        apply List.filter_congr
        intro x _
        cases h1 : dnOf r.m x <;> cases h2 : dnOf m2 x <;> simp_all
      have HDD := hide (fun x => foldl_done C ps r x)
      generalize hr2 : roundR C ps r = r2 at *
      have HR2 := hide hr2
      clear hr2
      generalize hk2 : r2.n = k2 at *
      have HK2 := hide hk2
      clear hk2
      go_wp2_with (first
        | (go_at_call 29; refine HRR.out.mono ?_; rintro e w3 ⟨rfl, h1, h2, h3⟩; have H1 := hide h1; have H2 := hide h2; have H3 := hide h3; clear h1 h2 h3)
        | fail)
      obtain ⟨s2, hal2⟩ := H1.out
      have hpr3 := hpr.out.turned H2.out (by have := HGN.out; simp [this.1, this.2.1, this.2.2.1])
      have hLc : L ≤ cap := by omega
      have HU := hide (undone_any w3 g cap L (keptTo (dnOf r.m) ps n) (dnOf r2.m) hrL.out (by omega) hLc hpr3 (fun x hx W hW => Al.done W d p q C r2.l s2 bs r2.m (hal2.turned hW (by simp; exact Ne.symm HGN.out.2.2.2) (by simp; exact Ne.symm HGN.out.2.1) (by simp; exact Ne.symm HGN.out.2.2.1) (fun b hb => by simp; rintro rfl; exact HGN.out.1 hb)) x (fun b e => HB.out b (by
          rw [← e]
          unfold keptTo at hx
          exact List.mem_of_mem_take (List.mem_filter.1 hx).1))))
      have HA3 := hide hal2
      have hk3 : (k : Int) + ((k2 : Int) - (k : Int)) = (k2 : Int) := by omega
      clear hpr3 hal2 H1 HRR
      refine HU.out.mono ?_
      rintro e w4 ⟨rfl, h1, h2⟩
      have e3 := HKK.out r2.m HDD.out
      rw [e3] at h1
      rw [e3]
      have hL2 : (keptTo (dnOf r2.m) ps n).length ≤ L := by rw [← e3]; exact keptTo_le _ _ _
      have HP4 := hide h1
      have HT4 := hide ((htu.out.trans H2.out).trans_new h2 (fun i hi => by simp at hi; subst hi; right; exact HGG.out))
      have HA4 := hide (HA3.out.turned h2 (by simp; exact Ne.symm HGN.out.2.2.2) (by simp; exact Ne.symm HGN.out.2.1) (by simp; exact Ne.symm HGN.out.2.2.1) (fun b hb => by simp; rintro rfl; exact HGN.out.1 hb))
      clear h1 h2 HU e3
      generalize hL3 : (keptTo (dnOf r2.m) ps n).length = L2 at *
      have HL3 := hide hL3
      clear hL3
      go_wp2_with fail
      go_roundg (100001 - k2)
      case measure => omega
      case rel =>
        have e4 : rounds C ps (j + 1) ⟨l, m, 0⟩ = r2 := HRS.out
        refine ⟨j + 1, k2, L2, ?_, rfl, by omega, by omega, Nat.le_refl _, by omega, ?_, ?_, ?_, ?_, HT4.out, ?_⟩
        · first | rw [hk3] | go_num
        · rw [e4]; exact HK2.out
        · rw [e4]; exact HL3.out
        · rw [e4]; exact HP4.out.less hL2
        · rw [e4]; exact ⟨s2, HA4.out⟩
        · rw [e4]; exact H3.out
    · have HGO := hide hgo
      have fin : ∀ {v : Int}, (∀ x, x ∈ ps → dnOf r.m x = true) ∨ 100000 ≤ r.n := by
        intro _
        by_cases hz : L = 0
        · left
          intro x hx
          have h1 := hrL.out
          rw [hz] at h1
          have h2 := List.eq_nil_of_length_eq_zero h1
          unfold keptTo at h2
          rw [List.take_of_length_le (by rw [HL.out]; exact Nat.le_refl _), List.filter_eq_nil_iff] at h2
          simpa using h2 x hx
        · right
          have := hrn.out
          omega
      have HFN := hide (fin (v := 0))
      clear fin
      by_cases hz : 0 < L
      · have e0 : (0 : Int) < (L : Int) := by omega
        have e1 : ¬ (k : Int) < 100000 := by omega
        clear hgo
        go_wp2_with fail
        go_ret
        refine ⟨j, ?_⟩
        rw [HR.out]
        exact ⟨by rw [hrn.out]; rfl, HFN.out, ⟨s1, HAL.out⟩, htu.out⟩
      · have e0 : ¬ (0 : Int) < (L : Int) := by omega
        clear hgo
        go_wp2_with fail
        go_ret
        refine ⟨j, ?_⟩
        rw [HR.out]
        exact ⟨by rw [hrn.out]; rfl, HFN.out, ⟨s1, HAL.out⟩, htu.out⟩
end

/-- An operation alone, so many steps. -/
def goes (C : Cfg) : Nat → List Int × OpS → List Int × OpS
  | 0, r => r
  | k + 1, r => goes C k (stepOf C r.1 r.2)

theorem goes_done (C : Cfg) (k : Nat) (r : List Int × OpS) (h : r.2.done = true) : goes C k r = r := by
  induction k with
  | zero => rfl
  | succ k ih =>
    rw [goes, show stepOf C r.1 r.2 = r by rw [stepOf_done C r.1 h], ih]

theorem rounds_one (C : Cfg) (b : Nat) (k : Nat) : ∀ (l : List Int) (m : Nat → OpS) (n : Nat), n + k < 100000 → (rounds C [some b] k ⟨l, m, n⟩).l = (goes C k (l, m b)).1 ∧ (rounds C [some b] k ⟨l, m, n⟩).m b = (goes C k (l, m b)).2 ∧ (rounds C [some b] k ⟨l, m, n⟩).n ≤ n + k := by
  induction k with
  | zero => intro l m n _; exact ⟨rfl, rfl, by simp [rounds]⟩
  | succ k ih =>
    intro l m n hn
    rw [rounds]
    by_cases hd : (m b).done = true
    · have e : roundR C [some b] ⟨l, m, n⟩ = ⟨l, m, n⟩ := round_all_done C _ _ (fun x hx => by simp at hx; subst hx; exact hd)
      rw [e, goes_done C (k + 1) (l, m b) hd]
      have := ih l m n (by omega)
      rw [goes_done C k (l, m b) hd] at this
      exact ⟨this.1, this.2.1, by omega⟩
    · have hd' : (m b).done = false := by simpa using hd
      have e : roundR C [some b] ⟨l, m, n⟩ = ⟨(stepOf C l (m b)).1, upd m b (stepOf C l (m b)).2, n + 1⟩ := by
        simp [roundR, turn, hd', show n < 100000 by omega]
      rw [e]
      have := ih (stepOf C l (m b)).1 (upd m b (stepOf C l (m b)).2) (n + 1) (by omega)
      rw [show upd m b (stepOf C l (m b)).2 b = (stepOf C l (m b)).2 by simp [upd]] at this
      exact ⟨this.1, this.2.1, by omega⟩

section
variable (w : World) (d p q b : Nat) (C : Cfg) (l : List Int) (s : Int) (o : OpS)

/-- One operation, run to its end. -/
theorem run_one (a c : Nat) (K : Nat) (hK : K < 100000) (N : Int) (hN : N ≤ 1099511627776) (hf : Fit C l o N) (hd : (goes C K (l, o)).2.done = true) (hc : w.cell? ⟨a, 0, none⟩ = some (.pointer (some ⟨b, 0, none⟩))) (hne : b ≠ d ∧ b ≠ p ∧ b ≠ q) (h : Dq w d p q C l s) (ho : OpB w b d o) :
    Calls Try.prog 13 #[.pointer (some ⟨d, 0, none⟩), .slice (some ⟨a, 0, none⟩) 1 c] w fun e w' => (∃ n, e = .returned (.int .i64 n)) ∧ (∃ s', Dq w' d p q C (goes C K (l, o)).1 s') ∧ OpB w' b d (goes C K (l, o)).2 ∧ Turned [p, q, b] w w' := by
  refine (run_any w d p q C l s [b] (fun _ => o) [some b] a 0 c 1 N hN rfl (by omega) (fun x hx => by simpa using hx) (fun i x hx => ?_) ⟨h, fun x hx => by simp at hx; subst hx; exact ho, fun x hx => by simp at hx; subst hx; exact hne⟩ (fun x hx => hf)).mono ?_
  · cases i with
    | zero => simp at hx; subst hx; exact hc
    | succ i => simp at hx
  · rintro e w' ⟨k, rfl, h1, ⟨s', h2⟩, h3⟩
    have h4 := rounds_one C b K l (fun _ => o) 0 (by omega)
    have h5 := run_fin C [some b] ⟨l, fun _ => o, 0⟩ k K h1 (fun x hx => by simp at hx; subst hx; simp only [dnOf]; rw [h4.2.1]; exact hd) (by omega)
    rw [h5, h4.1] at h2
    have h6 := h2.ops b (by simp)
    rw [h4.2.1] at h6
    exact ⟨⟨_, rfl⟩, ⟨s', h2.dq⟩, h6, h3⟩

end
end Go.Proofs.Ytokabpgdklihlaa

/-
  What holds at each step of sums ('Inv'); each step of who goes leaves less to do.
-/
import Derived.Test.YtdjeilombaclmaaSumsPure
namespace Go.Proofs.Ytdjeilombaclmaa
open Go.RowKit
set_option linter.unusedVariables false

def Mid (P : SP) (S : SS) : Prop := S.added ≤ P.nb ∧ S.tot = wrap64 (pre P.vals (min (S.added * P.size) P.len)) ∧ ∀ b, b < P.nb → S.bl[b]? = some (if b < S.added then wrap64 (pre P.vals (b * P.size)) else wrap64 (pre P.vals (P.fin b) - pre P.vals (b * P.size)))

inductive How (P : SP) (S : SS) : Prop
  | first (ph : S.ph = 0) (pr : Nat → Nat) (sh : Shr P S (fun b => pre P.vals (b * P.size)) false pr) (ad : S.added = 0) (tt : S.tot = 0)
  | mid (ph : S.ph = 1) (id : ∀ (k : Nat) (W : SW), S.wk[k]? = some W → W.pos = W.lim) (ct : S.cnt = 0) (md : Mid P S) (zr : (0 : Int) ∈ S.ws.take S.came → S.added = P.nb)
  | last (ph : S.ph = 2) (pr : Nat → Nat) (sh : Shr P S (fun _ => 0) true pr) (ad : S.added = P.nb) (tt : S.tot = wrap64 (pre P.vals P.len))
  | over (ph : S.ph = 3) (ah : ∀ i, i < P.len → S.ah[i]? = some (wrap64 (pre P.vals i))) (tt : S.tot = wrap64 (pre P.vals P.len))

structure Inv (P : SP) (S : SS) : Prop where
  sz : 0 < P.size
  gi : GI P.n S.ws S.came
  wl : S.wk.length = P.n
  bll : S.bl.length = P.nb
  ahl : S.ah.length = P.len
  cb : S.cnt ≤ P.nb + S.came
  how : How P S

/-- What is left to do. -/
def SS.share (P : SP) (S : SS) : Nat := (S.wk.map (fun W => W.lim - W.pos)).sum + (P.len - min (S.cnt * P.size) P.len) + (P.nb - S.cnt) + (P.n - S.came)
def SS.left (P : SP) (S : SS) : Nat :=
  if S.ph = 0 then S.share P + (P.nb + P.n) + (P.len + P.nb + P.n)
  else if S.ph = 1 then (P.nb - S.added) + (P.n - S.came) + (P.len + P.nb + P.n)
  else if S.ph = 2 then S.share P else 0

theorem wrap0 : wrap64 0 = 0 := by unfold wrap64; omega

theorem sum_set {α : Type} (f : α → Nat) : ∀ (l : List α) (k : Nat) (x y : α), l[k]? = some y → ((l.set k x).map f).sum + f y = (l.map f).sum + f x
  | [], k, x, y, h => by simp at h
  | a :: l, 0, x, y, h => by
      simp at h
      subst h
      simp
      omega
  | a :: l, k + 1, x, y, h => by
      have := sum_set f l k x y (by simpa using h)
      simp [-List.map_set]
      omega
theorem sum_zero {α : Type} (f : α → Nat) (l : List α) (h : ∀ (k : Nat) (W : α), l[k]? = some W → f W = 0) : (l.map f).sum = 0 := by
  induction l with
  | nil => rfl
  | cons a l ih =>
    have h0 := h 0 a rfl
    have := ih (fun k W hk => h (k + 1) W (by simpa using hk))
    simp
    omega

theorem arrive_facts {n : Nat} {ws : List Int} {came : Nat} (hI : GI n ws came) {k : Nat} (hk : k < n) (hn : (k : Int) ∉ ws.take came) :
    ∃ a : Nat, idxI ws k = a ∧ came ≤ a ∧ (swp ws a came k).Perm (ids n) ∧ (swp ws a came k).take (came + 1) = ws.take came ++ [(k : Int)] := by
  have hm : (k : Int) ∈ ws := hI.mem.2 (by omega)
  obtain ⟨a, ha⟩ : ∃ a : Nat, idxI ws k = a := ⟨(idxI ws k).toNat, by have := mt idx_neg.1 (by simpa using hm); omega⟩
  have hlen := hI.len
  have hlt := hI.lt
  have h1 : ¬ a < came := fun h => hn ((idx_take ha).2 h)
  exact ⟨a, ha, by omega, (swp_perm (idx_get ha) (by omega)).trans hI.perm, swp_take (by omega) (by omega)⟩

section
variable {P : SP} {S : SS}
theorem goes_iff (h : GI P.n S.ws S.came) {k : Nat} (hk : k < P.n) : S.goes k = true ↔ (k : Int) ∉ S.ws.take S.came := by
  unfold SS.goes
  rw [decide_eq_true_iff, h.drop]
  constructor
  · exact fun h => h.2
  · exact fun h => ⟨by omega, h⟩

theorem Inv.fresh (hs : 0 < P.size) (hn : 0 < P.n) : Inv P (SS.fresh P) := by
  refine ⟨hs, GI.start hn, by simp [SS.fresh], by simp [SS.fresh], by simp [SS.fresh], by simp [SS.fresh], .first rfl (fun b => b * P.size) ?_ rfl rfl⟩
  have hz : ∀ (k : Nat) (W : SW), (SS.fresh P).wk[k]? = some W → W = ⟨0, 0, 0⟩ := fun k W h => by
    simp [SS.fresh, List.getElem?_replicate] at h
    exact h.2.symm
  refine ⟨fun k W h => .inl (by rw [hz k W h]), fun k k' W W' h h' h1 => by rw [hz k W h] at h1; simp at h1, fun b _ _ => rfl, fun b hb h => by simp [SS.fresh] at h, fun b hb => ⟨Nat.le_refl _, by have := SP.fin_gt hs hb; omega⟩, fun b hb => ?_, fun h => by simp at h, fun h => by simp [SS.fresh] at h, fun k W h _ => by rw [hz k W h]⟩
  simp [SS.fresh, hb]
  exact wrap0.symm

/-- The worker arrives behind an ask in vain. -/
theorem Inv.asked (h : Inv P S) {k : Nat} {W : SW} (hk : k < P.n) (hg : (k : Int) ∉ S.ws.take S.came) (hW : S.wk[k]? = some W) (he : W.pos = W.lim) (hc : P.nb ≤ S.cnt) (h3 : S.ph < 3) (h1 : S.ph ≠ 1) :
    Inv P (SS.arrive { S with cnt := S.cnt + 1, acc := S.acc + 1 } k) ∧ (SS.arrive { S with cnt := S.cnt + 1, acc := S.acc + 1 } k).left P + 1 ≤ S.left P := by
  obtain ⟨a, ha, hca, hperm, htk⟩ := arrive_facts h.gi hk hg
  have hlen := h.gi.len
  have hlt := h.gi.lt
  have hcb := h.cb
  unfold SS.arrive
  simp only [ha, Int.toNat_natCast]
  by_cases hl : S.came + 1 = S.ws.length
  · rw [if_pos hl]
    have hall : ∀ j : Nat, j < P.n → (j : Int) = k ∨ (j : Int) ∈ S.ws.take S.came := fun j hj => by
      have h4 : (swp S.ws a S.came k).take (S.came + 1) = swp S.ws a S.came k := List.take_of_length_le (by simp [swp]; omega)
      have h5 : (j : Int) ∈ swp S.ws a S.came k := by rw [hperm.mem_iff, mem_ids]; omega
      rw [← h4, htk] at h5
      simp at h5
      rcases h5 with h5 | h5
      · exact .inr h5
      · exact .inl (by omega)
    have hidle : ∀ {base told pr}, Shr P S base told pr → ∀ (j : Nat) (V : SW), S.wk[j]? = some V → V.pos = V.lim := fun {base told pr} sh j V hj => by
      have hjn : j < P.n := by have := (List.getElem?_eq_some_iff.1 hj).1; have := h.wl; omega
      rcases hall j hjn with e | hm
      · have e2 : j = k := by omega
        subst e2
        rw [hW] at hj
        cases hj
        exact he
      · exact sh.idle j V hj hm
    cases h.how with
    | first ph pr sh ad tt =>
      refine ⟨⟨h.sz, ⟨hperm, by simp only; omega⟩, h.wl, h.bll, h.ahl, by simp, .mid (by simp [ph]) (hidle sh) rfl ⟨by simp [ad], by simp [ad, tt, pre_zero]; exact wrap0.symm, fun b hb => ?_⟩ (by simp)⟩, ?_⟩
      · simp only [ad]
        rw [sh.val b hb, sh.all (hidle sh) hc hb]
        simp
      · simp only [SS.left, SS.share, ph]
        simp [-List.map_set]
        omega
    | mid ph => exact absurd ph h1
    | last ph pr sh ad tt =>
      refine ⟨⟨h.sz, ⟨hperm, by simp only; omega⟩, h.wl, h.bll, h.ahl, by simp, .over (by simp [ph]) (fun i hi => ?_) tt⟩, ?_⟩
      · obtain ⟨b, hb, hb1, hb2⟩ := SP.block_of h.sz hi
        exact sh.tell rfl b hb i hb1 (by rw [sh.all (hidle sh) hc hb]; exact hb2)
      · simp only [SS.left, SS.share, ph]
        simp [-List.map_set]
        omega
    | over ph => omega
  · rw [if_neg hl]
    have hmem : ∀ y, y ∈ (swp S.ws a S.came k).take (S.came + 1) → y = (k : Int) ∨ y ∈ S.ws.take S.came := fun y hy => by
      rw [htk] at hy
      simp at hy
      exact hy.symm
    cases h.how with
    | first ph pr sh ad tt =>
      refine ⟨⟨h.sz, ⟨hperm, by simp only; omega⟩, h.wl, h.bll, h.ahl, by simp only; omega, .first ph pr (sh.gone hW he hc hmem) ad tt⟩, ?_⟩
      have h5 := SP.at_most h.sz hc
      have h6 : P.len ≤ (S.cnt + 1) * P.size := Nat.le_trans h5 (Nat.mul_le_mul_right _ (by omega))
      simp only [SS.left, SS.share, ph]
      rw [Nat.min_eq_right h5, Nat.min_eq_right h6]
      simp [-List.map_set]
      omega
    | mid ph => exact absurd ph h1
    | last ph pr sh ad tt =>
      refine ⟨⟨h.sz, ⟨hperm, by simp only; omega⟩, h.wl, h.bll, h.ahl, by simp only; omega, .last ph pr (sh.gone hW he hc hmem) ad tt⟩, ?_⟩
      have h5 := SP.at_most h.sz hc
      have h6 : P.len ≤ (S.cnt + 1) * P.size := Nat.le_trans h5 (Nat.mul_le_mul_right _ (by omega))
      simp only [SS.left, SS.share, ph]
      rw [Nat.min_eq_right h5, Nat.min_eq_right h6]
      simp [-List.map_set]
      omega
    | over ph => omega

/-- A block is taken. -/
theorem Inv.took (h : Inv P S) {k : Nat} {W : SW} (hk : k < P.n) (hg : (k : Int) ∉ S.ws.take S.came) (hW : S.wk[k]? = some W) (he : W.pos = W.lim) (hc : S.cnt < P.nb) (h3 : S.ph < 3) (h1 : S.ph ≠ 1) :
    Inv P { S with cnt := S.cnt + 1, acc := S.acc + 1, wk := S.wk.set k ⟨S.cnt, S.cnt * P.size, P.fin S.cnt⟩ } ∧ SS.left P { S with cnt := S.cnt + 1, acc := S.acc + 1, wk := S.wk.set k ⟨S.cnt, S.cnt * P.size, P.fin S.cnt⟩ } + 1 ≤ S.left P := by
  have hcb := h.cb
  have hsh : SS.share P { S with cnt := S.cnt + 1, acc := S.acc + 1, wk := S.wk.set k ⟨S.cnt, S.cnt * P.size, P.fin S.cnt⟩ } + 1 ≤ S.share P := by
    have h5 := sum_set (fun W : SW => W.lim - W.pos) S.wk k ⟨S.cnt, S.cnt * P.size, P.fin S.cnt⟩ W hW
    have h6 := SP.lt_len h.sz hc
    have h7 := SP.fin_succ (P := P) S.cnt
    have h8 := SP.fin_gt h.sz hc
    simp only [SS.share]
    simp only at h5
    rw [← h7]
    omega
  cases h.how with
  | first ph pr sh ad tt =>
    refine ⟨⟨h.sz, h.gi, by simpa using h.wl, h.bll, h.ahl, by simp only; omega, .first ph pr (sh.took h.sz hW he hc hg) ad tt⟩, ?_⟩
    simp only [SS.share] at hsh
    simp only [SS.left, SS.share, ph]
    simp [-List.map_set]
    omega
  | mid ph => exact absurd ph h1
  | last ph pr sh ad tt =>
    refine ⟨⟨h.sz, h.gi, by simpa using h.wl, h.bll, h.ahl, by simp only; omega, .last ph pr (sh.took h.sz hW he hc hg) ad tt⟩, ?_⟩
    simp only [SS.share] at hsh
    simp only [SS.left, SS.share, ph]
    simp [-List.map_set]
    omega
  | over ph => omega

/-- The middle phase. -/
theorem Inv.middle (h : Inv P S) {k : Nat} (hk : k < P.n) (hg : (k : Int) ∉ S.ws.take S.came) (h1 : S.ph = 1) :
    (k = 0 ∧ S.added < P.nb → Inv P S.addB ∧ S.addB.left P + 1 ≤ S.left P) ∧ (¬ (k = 0 ∧ S.added < P.nb) → Inv P (S.arrive k) ∧ (S.arrive k).left P + 1 ≤ S.left P) := by
  cases h.how with
  | first ph => omega
  | last ph => omega
  | over ph => omega
  | mid ph id ct md zr =>
  obtain ⟨m1, m2, m3⟩ := md
  constructor
  · rintro ⟨rfl, ha⟩
    have hb := m3 S.added ha
    rw [if_neg (Nat.lt_irrefl _)] at hb
    have hbd : S.bl.getD S.added 0 = wrap64 (pre P.vals (P.fin S.added) - pre P.vals (S.added * P.size)) := by rw [List.getD_eq_getElem?_getD, hb]; rfl
    have hlt := SP.lt_len h.sz ha
    have hmin : min (S.added * P.size) P.len = S.added * P.size := by omega
    rw [hmin] at m2
    refine ⟨⟨h.sz, h.gi, h.wl, by simpa [SS.addB] using h.bll, h.ahl, h.cb, .mid ph id ct ⟨by simp only [SS.addB]; omega, ?_, fun b hb2 => ?_⟩ (fun hz => ?_)⟩, ?_⟩
    · simp only [SS.addB]
      rw [hbd, m2, wrap_add2, ← SP.fin_succ]
      congr 1
      omega
    · show (S.bl.set S.added S.tot)[b]? = some (if b < S.added + 1 then wrap64 (pre P.vals (b * P.size)) else wrap64 (pre P.vals (P.fin b) - pre P.vals (b * P.size)))
      by_cases e : b = S.added
      · subst e
        rw [set_get hb, if_pos (show S.added < S.added + 1 by omega), m2]
      · rw [set_ne (Ne.symm e), m3 b hb2]
        by_cases hlt2 : b < S.added
        · rw [if_pos hlt2, if_pos (by omega)]
        · rw [if_neg hlt2, if_neg (by omega)]
    · exact absurd hz hg
    · simp only [SS.left, SS.addB, ph]
      simp [-List.map_set]
      omega
  · intro hna
    obtain ⟨a, ha, hca, hperm, htk⟩ := arrive_facts h.gi hk hg
    have hlen := h.gi.len
    have hlt := h.gi.lt
    have hz0 : ∀ y : Int, y = 0 → y = (k : Int) ∨ y ∈ S.ws.take S.came → S.added = P.nb := fun y hy hm => by
      rcases hm with e | hm
      · have : k = 0 := by omega
        have : ¬ S.added < P.nb := fun h5 => hna ⟨this, h5⟩
        omega
      · subst hy; exact zr hm
    unfold SS.arrive
    simp only [ha, Int.toNat_natCast]
    by_cases hl : S.came + 1 = S.ws.length
    · rw [if_pos hl]
      have hadd : S.added = P.nb := by
        refine hz0 0 rfl ?_
        have h4 : (swp S.ws a S.came k).take (S.came + 1) = swp S.ws a S.came k := List.take_of_length_le (by simp [swp]; omega)
        have h5 : (0 : Int) ∈ swp S.ws a S.came k := by rw [hperm.mem_iff, mem_ids]; omega
        rw [← h4, htk] at h5
        simp at h5
        rcases h5 with h5 | h5
        · exact .inr h5
        · exact .inl (by omega)
      refine ⟨⟨h.sz, ⟨hperm, by simp only; omega⟩, h.wl, h.bll, h.ahl, by simp, .last (by simp [ph]) (fun b => b * P.size) ?_ hadd ?_⟩, ?_⟩
      · refine ⟨fun j V hj => .inl (id j V hj), fun j j' V V' hj hj' hV => ?_, fun _ _ _ => rfl, fun b hb hb2 => ?_, fun b hb => ⟨Nat.le_refl _, by have := SP.fin_gt h.sz hb; omega⟩, fun b hb => ?_, fun _ b hb i h5 h6 => ?_, fun h5 => ?_, fun j V hj _ => id j V hj⟩
        · have := id j V hj
          omega
        · simp at hb2
        · have h5 := m3 b hb
          rw [if_pos (by omega)] at h5
          rw [h5]
          simp
        · omega
        · simp at h5
      · simp only
        rw [m2, hadd, Nat.min_eq_right (SP.len_le h.sz)]
      · have h5 : ((S.wk.map (fun W : SW => W.lim - W.pos)).sum) = 0 := sum_zero _ _ (fun j V hj => by have := id j V hj; omega)
        simp only [SS.left, SS.share, ph, h5]
        simp [-List.map_set]
        omega
    · rw [if_neg hl]
      refine ⟨⟨h.sz, ⟨hperm, by simp only; omega⟩, h.wl, h.bll, h.ahl, by have := h.cb; simp only; omega, .mid ph id ct ⟨m1, m2, m3⟩ (fun hz => ?_)⟩, ?_⟩
      · rw [htk] at hz
        simp only [List.mem_append, List.mem_singleton] at hz
        exact hz0 0 rfl hz.symm
      · simp only [SS.left, ph]
        simp [-List.map_set]
        omega

theorem work_add {k : Nat} {W : SW} (h0 : S.ph = 0) (he : W.pos ≠ W.lim) : S.work P k W = S.addV P k W := by simp [SS.work, SS.act, h0, he]
theorem work_tel {k : Nat} {W : SW} (h0 : S.ph = 2) (he : W.pos ≠ W.lim) : S.work P k W = S.telV P k W := by simp [SS.work, SS.act, h0, he]
theorem work_took {k : Nat} {W : SW} (h1 : S.ph ≠ 1) (he : W.pos = W.lim) (hc : S.cnt < P.nb) : S.work P k W = { S with cnt := S.cnt + 1, acc := S.acc + 1, wk := S.wk.set k ⟨S.cnt, S.cnt * P.size, P.fin S.cnt⟩ } := by simp [SS.work, SS.act, h1, he, SS.took, SS.take, hc]
theorem work_gone {k : Nat} {W : SW} (h1 : S.ph ≠ 1) (he : W.pos = W.lim) (hc : ¬ S.cnt < P.nb) : S.work P k W = SS.arrive { S with cnt := S.cnt + 1, acc := S.acc + 1 } k := by simp [SS.work, SS.act, h1, he, SS.took, SS.take, hc]
theorem work_addB {k : Nat} {W : SW} (h1 : S.ph = 1) (hc : k = 0 ∧ S.added < P.nb) : S.work P k W = S.addB := by simp [SS.work, SS.act, h1, hc]
theorem work_idle {k : Nat} {W : SW} (h1 : S.ph = 1) (hc : ¬ (k = 0 ∧ S.added < P.nb)) : S.work P k W = S.arrive k := by
  unfold SS.work SS.act
  rw [if_pos h1, if_neg hc]
  rfl

/-- A step of who goes. -/
theorem Inv.step (h : Inv P S) {k : Nat} (hk : k < P.n) (h3 : S.ph < 3) (hg : S.goes k = true) : Inv P (S.step P k) ∧ (S.step P k).left P + 1 ≤ S.left P := by
  have hg2 := (goes_iff h.gi hk).1 hg
  have hW : S.wk[k]? = some (S.wk.getD k ⟨0, 0, 0⟩) := by
    rw [List.getD_eq_getElem?_getD, List.getElem?_eq_getElem (by rw [h.wl]; exact hk)]; rfl
  unfold SS.step
  rw [if_pos ⟨h3, hg⟩]
  generalize S.wk.getD k ⟨0, 0, 0⟩ = W at hW
  by_cases h1 : S.ph = 1
  · have hm := h.middle hk hg2 h1
    by_cases hc : k = 0 ∧ S.added < P.nb
    · rw [work_addB h1 hc]
      exact hm.1 hc
    · rw [work_idle h1 hc]
      exact hm.2 hc
  · by_cases he : W.pos = W.lim
    · by_cases hc : S.cnt < P.nb
      · rw [work_took h1 he hc]
        exact h.took hk hg2 hW he hc h3 h1
      · rw [work_gone h1 he hc]
        exact h.asked hk hg2 hW he (by omega) h3 h1
    · have hsum : W.pos < W.lim → SS.share P { S with wk := S.wk.set k ⟨W.blk, W.pos + 1, W.lim⟩ } + 1 ≤ S.share P := fun hlt => by
        have h5 := sum_set (fun W : SW => W.lim - W.pos) S.wk k ⟨W.blk, W.pos + 1, W.lim⟩ W hW
        simp only [SS.share]
        simp only at h5
        omega
      cases h.how with
      | mid ph => exact absurd ph h1
      | over ph => omega
      | first ph pr sh ad tt =>
        rw [work_add ph he]
        have hlt := ((sh.busy k W hW).resolve_left he).1
        refine ⟨⟨h.sz, h.gi, by simpa [SS.addV] using h.wl, by simpa [SS.addV] using h.bll, h.ahl, h.cb, .first ph _ (sh.one h.sz hW he (ah' := S.ah) (by simp) h.ahl (by simp)) ad tt⟩, ?_⟩
        have := hsum hlt
        simp only [SS.share] at this
        simp only [SS.left, SS.addV, SS.share, ph]
        simp [-List.map_set]
        omega
      | last ph pr sh ad tt =>
        rw [work_tel ph he]
        have hlt := ((sh.busy k W hW).resolve_left he).1
        refine ⟨⟨h.sz, h.gi, by simpa [SS.telV] using h.wl, by simpa [SS.telV] using h.bll, by simpa [SS.telV] using h.ahl, h.cb, .last ph _ (sh.one h.sz hW he (fun _ => rfl) h.ahl (fun _ _ => rfl)) ad tt⟩, ?_⟩
        have := hsum hlt
        simp only [SS.share] at this
        simp only [SS.left, SS.telV, SS.share, ph]
        simp [-List.map_set]
        omega
end
end Go.Proofs.Ytdjeilombaclmaa

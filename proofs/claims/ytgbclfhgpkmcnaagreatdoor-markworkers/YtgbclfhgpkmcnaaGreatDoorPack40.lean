/-
  Texts of the proof, several in one: MarkLink, MarkGg.
-/
import Derived.Test.YtgbclfhgpkmcnaaGreatDoorPack38
import Derived.Test.YtgbclfhgpkmcnaaGreatDoorPack30
/-
  What the marker reaches in a heap of things is what the document reaches, and all of it are objects that lie apart. No Go is walked here.
-/
namespace Go.Proofs.YtgbclfhgpkmcnaaGreatDoor
set_option linter.unusedVariables false
set_option linter.unusedSimpArgs false

section
variable {N : Nat} {top : Int} {bs : List Blk} {P : MP} {rs : List Int}
theorem hd_obj (h : Hd N P.hw top bs) (hc : P.cl = four) {b : Blk} (hb : b ∈ bs) : P.obj b.t = some b := by
  have hr := h.chain.read b hb
  have ho := objOf_some (h.obj hb)
  unfold MP.obj
  rw [hc, hr.1]
  simp only
  rw [if_neg ho.2.1]
theorem word_ref (b : Blk) (hc : P.cl = four) {y : Int} (h0 : y ≠ 0) : (∃ p, p ∈ P.places b ∧ P.word p = y) ↔ y ∈ refWords P.hw four b := by
  unfold MP.places refWords MP.word
  rw [hc]
  constructor
  · rintro ⟨p, hp, e⟩
    obtain ⟨i, hi, rfl⟩ := List.mem_map.1 hp
    rw [List.mem_filterMap]
    refine ⟨i, hi, ?_⟩
    cases hw : wordAt P.hw (i + b.t) with
    | none => rw [hw] at e; simp at e; exact absurd e.symm h0
    | some z =>
      rw [hw] at e
      simp at e
      rw [Int.add_comm, hw, e]
  · intro hy
    obtain ⟨i, hi, e⟩ := List.mem_filterMap.1 hy
    refine ⟨i + b.t, List.mem_map.2 ⟨i, hi, rfl⟩, ?_⟩
    rw [Int.add_comm, e]
    rfl
theorem rch_link (h : Hd N P.hw top bs) (hc : P.cl = four) (hrs : ∀ r, r ∈ rs → r = 0 ∨ ∃ b, b ∈ bs ∧ r = b.t) (t : Int) : RchM P rs t ↔ Rch (objOf (bs ++ tail4 N top)) (refWords P.hw four) rs t := by
  constructor
  · intro g
    induction g with
    | root h1 h2 => exact .root h1 h2
    | step g h1 h2 h3 ih =>
      obtain ⟨c, hcb, rfl⟩ := h.closed hrs ih
      rw [hd_obj h hc hcb] at h1
      cases h1
      exact .next ih (h.obj hcb) ((word_ref _ hc h3).1 ⟨_, h2, rfl⟩) h3
  · intro g
    induction g with
    | root h1 h2 => exact .root h1 h2
    | next g h1 h2 h3 ih =>
      obtain ⟨hcb, rfl⟩ := h.objs h1
      obtain ⟨p, hp, e⟩ := (word_ref _ hc h3).2 h2
      rw [← e] at h3 ⊢
      exact .step ih (hd_obj h hc hcb) hp h3
theorem right_link (h : Hd N P.hw top bs) (hc : P.cl = four) (hrs : ∀ r, r ∈ rs → r = 0 ∨ ∃ b, b ∈ bs ∧ r = b.t) : RightM P rs := by
  have hcl : ∀ t, RchM P rs t → ∃ b, b ∈ bs ∧ t = b.t := fun t g => h.closed hrs ((rch_link h hc hrs t).1 g)
  refine ⟨fun t g => ?_, fun t u b c g1 g2 h1 h2 hlt => ?_⟩
  · obtain ⟨b, hb, rfl⟩ := hcl t g
    exact ⟨b, hd_obj h hc hb⟩
  · obtain ⟨b', hb, rfl⟩ := hcl t g1
    obtain ⟨c', hc', rfl⟩ := hcl u g2
    rw [hd_obj h hc hb] at h1
    rw [hd_obj h hc hc'] at h2
    cases h1
    cases h2
    rcases pair_mem (conn_apart _ _ _ h.chain.chain) b c hb hc' with e | e | e
    · subst e; omega
    · exact e
    · have := (readOf_some (h.chain.read c hc').1).2.2.1
      omega
end
end Go.Proofs.YtgbclfhgpkmcnaaGreatDoor

/-
  All that holds of a marker through a law ('Gg'), at any steps and by turns ('turnsM', 'Gg.ends'); how many are marked ('marks_len'). No Go is walked here.
-/
namespace Go.Proofs.YtgbclfhgpkmcnaaGreatDoor
set_option linter.unusedVariables false
set_option linter.unusedSimpArgs false

/-- What holds of a marker: R the roots, E what it had left at first. -/
structure Gg (P : MP) (R : List Int) (H : Nat) (E : Nat) (M : Int) (S : MS) : Prop where
  all : AllM P S
  idle : IdleM P S
  inv : InvM P R S
  bm : Bm P H M S
  left : eM P S ≤ E
section
variable {P : MP} {R : List Int} {H E : Nat} {M : Int} {S : MS}
theorem Gg.may (h : Gg P R H E M S) (hP : BP P) (hM : M ≤ 900000) (hH : H ≤ 1000000) {k : Nat} (hk : k < P.n) : MayM P S k := h.bm.may hP hM hH hk
theorem Gg.step (h : Gg P R H E M S) (hP : BP P) (hH : 1 ≤ H) (hR : RightM P R) {k : Nat} (hk : k < P.n) : Gg P R H E (M + 1) (stepM P S k) := by
  obtain ⟨e1, e2, e3⟩ := e_step h.all h.inv.bl hk
  refine ⟨h.all.step hk, h.idle.step hk, h.inv.step hR h.all hk, h.bm.step hP hH hk, ?_⟩
  have := h.left
  by_cases q : QsM P S k
  · rw [e1 q]; exact this
  · have := e2 q; omega
/-- Steps by turns. -/
def turnsM (P : MP) (S : MS) : Nat → MS
  | 0 => S
  | t + 1 => stepM P (turnsM P S t) (t % P.n)
theorem Gg.turns (h : Gg P R H E M S) (hP : BP P) (hH : 1 ≤ H) (hR : RightM P R) : ∀ t : Nat, Gg P R H E (M + t) (turnsM P S t)
  | 0 => by rw [show M + ((0 : Nat) : Int) = M by simp]; exact h
  | t + 1 => by
    have := (h.turns hP hH hR t).step hP hH hR (Nat.mod_lt t (show P.n > 0 by have := hP.n1; omega))
    rw [show M + ((t + 1 : Nat) : Int) = M + t + 1 by omega]
    exact this
theorem Gg.ends (h : Gg P R H E M S) (hP : BP P) (h4 : P.n ≤ 4) {t : Nat} (ht : (28 * P.n + 1) * E + calmB P.n ≤ t) : ∀ k, k < P.n → ((turnsM P S t).X k).ended = true :=
  ends_soon (T := turnsM P S) (a := 0) (fun t => rfl) hP.n1 h4 h.all h.idle h.inv.bl h.left t (by omega)
theorem Gg.over (h : Gg P R H E M S) (he : ∀ k, k < P.n → (S.X k).ended = true) : (∀ t, isM P.hw.length S.sz t ↔ RchM P R t) ∧ sumTo (fun k => (S.X k).seen) P.n = (marksTo S.sz P.hw.length : Int) ∧ S.fault = 0 ∧ ∀ t, isM P.hw.length S.sz t → ∃ b, P.obj t = some b ∧ (S.sz t.toNat : Int) = b.s := by
  obtain ⟨h1, h2⟩ := h.inv.over h.all he
  exact ⟨h1, h2, h.inv.fault, fun t g => (h.inv.reach t g).2⟩
/-- A new marker, without roots. -/
theorem gg_fresh (hP : BP P) (hc : 1 ≤ P.cap) {sz : Nat → Nat} (hz : ∀ t, sz t = 0) {L : Nat} (hL : 1 + P.n * P.need ≤ L) : Gg P [] 0 (3 * P.hw.length) 0 (MS.fresh (List.replicate L 0) sz 0 0) ∧ ChM (MS.fresh (List.replicate L 0) sz 0 0) :=
  ⟨⟨fresh_all hP.n1 hc hL, ch_idle (fun k => ⟨rfl, rfl⟩), fresh_inv hz 0 0 L, fresh_bm P _ sz (fun x hx => List.eq_of_mem_replicate hx), by have := fresh_eM (P := P) (sz := sz) (hs := 0) (cs := 0) (L := L); omega⟩, fun k => ⟨rfl, rfl⟩⟩
/-- Roots are told. -/
theorem Gg.roots (h : Gg P R H E M S) (hC : ChM S) (r : Nat) (rs : List Int) (hr : ∀ y, y ∈ rs → In64 y) : Gg P (R ++ rs) (H + rs.length) (E + 2 * rs.length) M (rootsM P.n S r rs) ∧ ChM (rootsM P.n S r rs) := by
  obtain ⟨a1, a2, a3, a4⟩ := roots_all rs r h.all hC h.inv.bl
  refine ⟨⟨a1, ch_idle a2, roots_inv rs r h.all hC h.inv.bl h.inv, roots_bm h.all.v.ok.n1 rs r h.bm hr, ?_⟩, a2⟩
  have := h.left
  rw [a3]
  omega
theorem Gg.more (h : Gg P R H E M S) {H' E' : Nat} (h1 : H ≤ H') (h2 : E ≤ E') : Gg P R H' E' M S := by
  refine ⟨h.all, h.idle, h.inv, ⟨h.bm.m0, h.bm.hs, h.bm.cs, h.bm.l, fun k hk => ?_⟩, by have := h.left; omega⟩
  have w := h.bm.w k hk
  exact ⟨w.seen, Nat.le_trans w.hl h1, w.hin, w.kl, w.kin, w.pl, w.pin, w.act⟩
theorem rights_of {R R' : List Int} (h : ∀ r, r ∈ R' → r ∈ R) (hR : RightM P R) : RightM P R' :=
  ⟨fun t g => hR.obj t (g.mono h), fun t u b c g1 g2 => hR.apart t u b c (g1.mono h) (g2.mono h)⟩
/-- The same roots, whatever their order and how often. -/
theorem rch_same {R R' : List Int} (h : ∀ r, r ≠ 0 → (r ∈ R ↔ r ∈ R')) (t : Int) : RchM P R t ↔ RchM P R' t := by
  have key : ∀ {R R' : List Int}, (∀ r, r ≠ 0 → r ∈ R → r ∈ R') → ∀ t, RchM P R t → RchM P R' t := fun h t g => by
    induction g with
    | root h1 h2 => exact .root (h _ h2 h1) h2
    | step _ h1 h2 h3 ih => exact .step ih h1 h2 h3
  exact ⟨key (fun r h0 => (h r h0).1) t, key (fun r h0 => (h r h0).2) t⟩
end
/-- The same marks: the same sizes, as many. -/
theorem sizes_same {P Q : MP} {R : List Int} {S T : MS} (hw : P.hw = Q.hw) (hc : P.cl = Q.cl)
    (h1 : ∀ t, isM P.hw.length S.sz t ↔ RchM P R t) (h2 : ∀ t, isM Q.hw.length T.sz t ↔ RchM Q R t) (s1 : ∀ t, isM P.hw.length S.sz t → ∃ b, P.obj t = some b ∧ (S.sz t.toNat : Int) = b.s) (s2 : ∀ t, isM Q.hw.length T.sz t → ∃ b, Q.obj t = some b ∧ (T.sz t.toNat : Int) = b.s) :
    ∀ i : Nat, i < P.hw.length → S.sz i = T.sz i := by
  have hr : ∀ t, RchM P R t ↔ RchM Q R t := by
    have ho : ∀ t, P.obj t = Q.obj t := fun t => by unfold MP.obj; rw [hw, hc]
    have hp : ∀ b, P.places b = Q.places b := fun b => by unfold MP.places; rw [hc]
    have hv : ∀ p, P.word p = Q.word p := fun p => by unfold MP.word; rw [hw]
    intro t
    constructor
    · intro g
      induction g with
      | root h1 h2 => exact .root h1 h2
      | step _ h1 h2 h3 ih => rw [hv] at h3 ⊢; rw [ho] at h1; rw [hp] at h2; exact .step ih h1 h2 h3
    · intro g
      induction g with
      | root h1 h2 => exact .root h1 h2
      | step _ h1 h2 h3 ih => rw [← hv] at h3 ⊢; rw [← ho] at h1; rw [← hp] at h2; exact .step ih h1 h2 h3
  intro i hi
  have e1 := (h1 (i : Int)).trans ((hr i).trans (h2 (i : Int)).symm)
  have n1 : isM P.hw.length S.sz (i : Int) ↔ 0 < S.sz i := by
    unfold isM
    rw [Int.toNat_natCast]
    exact ⟨fun g => g.2.2, fun g => ⟨by omega, by omega, g⟩⟩
  have n2 : isM Q.hw.length T.sz (i : Int) ↔ 0 < T.sz i := by
    unfold isM
    rw [Int.toNat_natCast, ← hw]
    exact ⟨fun g => g.2.2, fun g => ⟨by omega, by omega, g⟩⟩
  by_cases g : 0 < S.sz i
  · obtain ⟨b, b1, b2⟩ := s1 i (n1.2 g)
    obtain ⟨c, c1, c2⟩ := s2 i (e1.1 (n1.2 g))
    have : P.obj (i : Int) = Q.obj i := by unfold MP.obj; rw [hw, hc]
    rw [this, c1] at b1
    cases b1
    rw [Int.toNat_natCast] at b2 c2
    omega
  · have : ¬ 0 < T.sz i := fun q => g (n1.1 (e1.2 (n2.2 q)))
    omega
theorem cnt_less (f : Nat → Bool) {a : Nat} (ha : f a = true) : ∀ n, a < n → Bt.cnt f n = Bt.cnt (fun i => f i && !(i == a)) n + 1
  | 0, h => by omega
  | n + 1, h => by
    rw [Bt.cnt, Bt.cnt]
    by_cases e : a = n
    · subst e
      rw [Bt.cnt_congr (f := f) (g := fun i => f i && !(i == a)) (fun j hj => by
        have : (j == a) = false := by simp; omega
        simp only [this]
        simp), ha]
      simp
    · rw [cnt_less f ha n (by omega)]
      have : (n == a) = false := by simp; omega
      simp only [this]
      simp
      omega
/-- How many are marked. -/
theorem marks_of (n : Nat) : ∀ (l : List Int) (f : Nat → Bool), l.Nodup → (∀ t, t ∈ l → 0 ≤ t ∧ t < n) → (∀ i : Nat, i < n → (f i = true ↔ (i : Int) ∈ l)) → Bt.cnt f n = l.length
  | [], f, _, _, h => by
    rw [Bt.cnt_zero fun j hj => ?_]
    · rfl
    · cases e : f j with
      | false => rfl
      | true => have := (h j hj).1 e; cases this
  | t :: l, f, hn, hl, h => by
    obtain ⟨hn1, hn2⟩ := List.nodup_cons.1 hn
    obtain ⟨t0, t1⟩ := hl t (by simp)
    have ht : f t.toNat = true := (h t.toNat (by omega)).2 (by rw [show ((t.toNat : Nat) : Int) = t by omega]; simp)
    rw [cnt_less f ht n (by omega), marks_of n l _ hn2 (fun u hu => hl u (by simp [hu])) (fun i hi => ?_)]
    · rfl
    · simp only [Bool.and_eq_true, Bool.not_eq_true', beq_eq_false_iff_ne, ne_eq]
      rw [h i hi]
      constructor
      · rintro ⟨g1, g2⟩
        rcases List.mem_cons.1 g1 with g | g
        · omega
        · exact g
      · intro g
        refine ⟨List.mem_cons_of_mem _ g, fun e => hn1 ?_⟩
        rw [show t = (i : Int) by omega]
        exact g
theorem marks_len {N : Nat} {sz : Nat → Nat} {l : List Int} (hn : l.Nodup) (h : ∀ t, isM N sz t ↔ t ∈ l) : marksTo sz N = l.length := by
  refine marks_of N l _ hn (fun t ht => ?_) (fun i hi => ?_)
  · have := (h t).2 ht
    exact ⟨this.1, this.2.1⟩
  · rw [← h]
    unfold isM Bt.begs
    rw [Int.toNat_natCast]
    simp
    omega
end Go.Proofs.YtgbclfhgpkmcnaaGreatDoor

/-
  Texts of the proof, several in one: MarkLink, MarkGg, MarkAnyL.
-/
import Derived.Test.YtgbclfhgpkmcnaaGreatDoorPack37
import Derived.Test.YtgbclfhgpkmcnaaGreatDoorPack30
/-
  What the marker reaches in a heap of things is what the document reaches, and all of it are objects that lie apart. No Go is walked here.
-/
namespace Go.Proofs.YtgbclfhgpkmcnaaGreatDoor
set_option linter.unusedVariables false
set_option linter.unusedSimpArgs false

section
variable {N : Nat} {top : Int} {bs : List Blk} {P : MP} {rs : List Int}
theorem hd_obj (h : Hd N P.hw top bs) (hc : P.cl = four) {b : Blk} (hb : b ∈ bs) : P.obj b.t = some b := by
  have hr := h.chain.read b hb
  have ho := objOf_some (h.obj hb)
  unfold MP.obj
  rw [hc, hr.1]
  simp only
  rw [if_neg ho.2.1]
theorem word_ref (b : Blk) (hc : P.cl = four) {y : Int} (h0 : y ≠ 0) : (∃ p, p ∈ P.places b ∧ P.word p = y) ↔ y ∈ refWords P.hw four b := by
  unfold MP.places refWords MP.word
  rw [hc]
  constructor
  · rintro ⟨p, hp, e⟩
    obtain ⟨i, hi, rfl⟩ := List.mem_map.1 hp
    rw [List.mem_filterMap]
    refine ⟨i, hi, ?_⟩
    cases hw : wordAt P.hw (i + b.t) with
    | none => rw [hw] at e; simp at e; exact absurd e.symm h0
    | some z =>
      rw [hw] at e
      simp at e
      rw [Int.add_comm, hw, e]
  · intro hy
    obtain ⟨i, hi, e⟩ := List.mem_filterMap.1 hy
    refine ⟨i + b.t, List.mem_map.2 ⟨i, hi, rfl⟩, ?_⟩
    rw [Int.add_comm, e]
    rfl
theorem rch_link (h : Hd N P.hw top bs) (hc : P.cl = four) (hrs : ∀ r, r ∈ rs → r = 0 ∨ ∃ b, b ∈ bs ∧ r = b.t) (t : Int) : RchM P rs t ↔ Rch (objOf (bs ++ tail4 N top)) (refWords P.hw four) rs t := by
  constructor
  · intro g
    induction g with
    | root h1 h2 => exact .root h1 h2
    | step g h1 h2 h3 ih =>
      obtain ⟨c, hcb, rfl⟩ := h.closed hrs ih
      rw [hd_obj h hc hcb] at h1
      cases h1
      exact .next ih (h.obj hcb) ((word_ref _ hc h3).1 ⟨_, h2, rfl⟩) h3
  · intro g
    induction g with
    | root h1 h2 => exact .root h1 h2
    | next g h1 h2 h3 ih =>
      obtain ⟨hcb, rfl⟩ := h.objs h1
      obtain ⟨p, hp, e⟩ := (word_ref _ hc h3).2 h2
      rw [← e] at h3 ⊢
      exact .step ih (hd_obj h hc hcb) hp h3
theorem right_link (h : Hd N P.hw top bs) (hc : P.cl = four) (hrs : ∀ r, r ∈ rs → r = 0 ∨ ∃ b, b ∈ bs ∧ r = b.t) : RightM P rs := by
  have hcl : ∀ t, RchM P rs t → ∃ b, b ∈ bs ∧ t = b.t := fun t g => h.closed hrs ((rch_link h hc hrs t).1 g)
  refine ⟨fun t g => ?_, fun t u b c g1 g2 h1 h2 hlt => ?_⟩
  · obtain ⟨b, hb, rfl⟩ := hcl t g
    exact ⟨b, hd_obj h hc hb⟩
  · obtain ⟨b', hb, rfl⟩ := hcl t g1
    obtain ⟨c', hc', rfl⟩ := hcl u g2
    rw [hd_obj h hc hb] at h1
    rw [hd_obj h hc hc'] at h2
    cases h1
    cases h2
    rcases pair_mem (conn_apart _ _ _ h.chain.chain) b c hb hc' with e | e | e
    · subst e; omega
    · exact e
    · have := (readOf_some (h.chain.read c hc').1).2.2.1
      omega
end
end Go.Proofs.YtgbclfhgpkmcnaaGreatDoor

/-
  All that holds of a marker through a law ('Gg'), at any steps and by turns ('turnsM', 'Gg.ends'); how many are marked ('marks_len'). No Go is walked here.
-/
namespace Go.Proofs.YtgbclfhgpkmcnaaGreatDoor
set_option linter.unusedVariables false
set_option linter.unusedSimpArgs false

/-- What holds of a marker: R the roots, E what it had left at first. -/
structure Gg (P : MP) (R : List Int) (H : Nat) (E : Nat) (M : Int) (S : MS) : Prop where
  all : AllM P S
  idle : IdleM P S
  inv : InvM P R S
  bm : Bm P H M S
  left : eM P S ≤ E
section
variable {P : MP} {R : List Int} {H E : Nat} {M : Int} {S : MS}
theorem Gg.may (h : Gg P R H E M S) (hP : BP P) (hM : M ≤ 900000) (hH : H ≤ 1000000) {k : Nat} (hk : k < P.n) : MayM P S k := h.bm.may hP hM hH hk
theorem Gg.step (h : Gg P R H E M S) (hP : BP P) (hH : 1 ≤ H) (hR : RightM P R) {k : Nat} (hk : k < P.n) : Gg P R H E (M + 1) (stepM P S k) := by
  obtain ⟨e1, e2, e3⟩ := e_step h.all h.inv.bl hk
  refine ⟨h.all.step hk, h.idle.step hk, h.inv.step hR h.all hk, h.bm.step hP hH hk, ?_⟩
  have := h.left
  by_cases q : QsM P S k
  · rw [e1 q]; exact this
  · have := e2 q; omega
/-- Steps by turns. -/
def turnsM (P : MP) (S : MS) : Nat → MS
  | 0 => S
  | t + 1 => stepM P (turnsM P S t) (t % P.n)
theorem Gg.turns (h : Gg P R H E M S) (hP : BP P) (hH : 1 ≤ H) (hR : RightM P R) : ∀ t : Nat, Gg P R H E (M + t) (turnsM P S t)
  | 0 => by rw [show M + ((0 : Nat) : Int) = M by simp]; exact h
  | t + 1 => by
    have := (h.turns hP hH hR t).step hP hH hR (Nat.mod_lt t (show P.n > 0 by have := hP.n1; omega))
    rw [show M + ((t + 1 : Nat) : Int) = M + t + 1 by omega]
    exact this
theorem Gg.ends (h : Gg P R H E M S) (hP : BP P) (h4 : P.n ≤ 4) {t : Nat} (ht : (28 * P.n + 1) * E + calmB P.n ≤ t) : ∀ k, k < P.n → ((turnsM P S t).X k).ended = true :=
  ends_soon (T := turnsM P S) (a := 0) (fun t => rfl) hP.n1 h4 h.all h.idle h.inv.bl h.left t (by omega)
theorem Gg.over (h : Gg P R H E M S) (he : ∀ k, k < P.n → (S.X k).ended = true) : (∀ t, isM P.hw.length S.sz t ↔ RchM P R t) ∧ sumTo (fun k => (S.X k).seen) P.n = (marksTo S.sz P.hw.length : Int) ∧ S.fault = 0 ∧ ∀ t, isM P.hw.length S.sz t → ∃ b, P.obj t = some b ∧ (S.sz t.toNat : Int) = b.s := by
  obtain ⟨h1, h2⟩ := h.inv.over h.all he
  exact ⟨h1, h2, h.inv.fault, fun t g => (h.inv.reach t g).2⟩
/-- A new marker, without roots. -/
theorem gg_fresh (hP : BP P) (hc : 1 ≤ P.cap) {sz : Nat → Nat} (hz : ∀ t, sz t = 0) {L : Nat} (hL : 1 + P.n * P.need ≤ L) : Gg P [] 0 (3 * P.hw.length) 0 (MS.fresh (List.replicate L 0) sz 0 0) ∧ ChM (MS.fresh (List.replicate L 0) sz 0 0) :=
  ⟨⟨fresh_all hP.n1 hc hL, ch_idle (fun k => ⟨rfl, rfl⟩), fresh_inv hz 0 0 L, fresh_bm P _ sz (fun x hx => List.eq_of_mem_replicate hx), by have := fresh_eM (P := P) (sz := sz) (hs := 0) (cs := 0) (L := L); omega⟩, fun k => ⟨rfl, rfl⟩⟩
/-- Roots are told. -/
theorem Gg.roots (h : Gg P R H E M S) (hC : ChM S) (r : Nat) (rs : List Int) (hr : ∀ y, y ∈ rs → In64 y) : Gg P (R ++ rs) (H + rs.length) (E + 2 * rs.length) M (rootsM P.n S r rs) ∧ ChM (rootsM P.n S r rs) := by
  obtain ⟨a1, a2, a3, a4⟩ := roots_all rs r h.all hC h.inv.bl
  refine ⟨⟨a1, ch_idle a2, roots_inv rs r h.all hC h.inv.bl h.inv, roots_bm h.all.v.ok.n1 rs r h.bm hr, ?_⟩, a2⟩
  have := h.left
  rw [a3]
  omega
theorem Gg.more (h : Gg P R H E M S) {H' E' : Nat} (h1 : H ≤ H') (h2 : E ≤ E') : Gg P R H' E' M S := by
  refine ⟨h.all, h.idle, h.inv, ⟨h.bm.m0, h.bm.hs, h.bm.cs, h.bm.l, fun k hk => ?_⟩, by have := h.left; omega⟩
  have w := h.bm.w k hk
  exact ⟨w.seen, Nat.le_trans w.hl h1, w.hin, w.kl, w.kin, w.pl, w.pin, w.act⟩
theorem rights_of {R R' : List Int} (h : ∀ r, r ∈ R' → r ∈ R) (hR : RightM P R) : RightM P R' :=
  ⟨fun t g => hR.obj t (g.mono h), fun t u b c g1 g2 => hR.apart t u b c (g1.mono h) (g2.mono h)⟩
/-- The same roots, whatever their order and how often. -/
theorem rch_same {R R' : List Int} (h : ∀ r, r ≠ 0 → (r ∈ R ↔ r ∈ R')) (t : Int) : RchM P R t ↔ RchM P R' t := by
  have key : ∀ {R R' : List Int}, (∀ r, r ≠ 0 → r ∈ R → r ∈ R') → ∀ t, RchM P R t → RchM P R' t := fun h t g => by
    induction g with
    | root h1 h2 => exact .root (h _ h2 h1) h2
    | step _ h1 h2 h3 ih => exact .step ih h1 h2 h3
  exact ⟨key (fun r h0 => (h r h0).1) t, key (fun r h0 => (h r h0).2) t⟩
end
/-- The same marks: the same sizes, as many. -/
theorem sizes_same {P Q : MP} {R : List Int} {S T : MS} (hw : P.hw = Q.hw) (hc : P.cl = Q.cl)
    (h1 : ∀ t, isM P.hw.length S.sz t ↔ RchM P R t) (h2 : ∀ t, isM Q.hw.length T.sz t ↔ RchM Q R t) (s1 : ∀ t, isM P.hw.length S.sz t → ∃ b, P.obj t = some b ∧ (S.sz t.toNat : Int) = b.s) (s2 : ∀ t, isM Q.hw.length T.sz t → ∃ b, Q.obj t = some b ∧ (T.sz t.toNat : Int) = b.s) :
    ∀ i : Nat, i < P.hw.length → S.sz i = T.sz i := by
  have hr : ∀ t, RchM P R t ↔ RchM Q R t := by
    have ho : ∀ t, P.obj t = Q.obj t := fun t => by unfold MP.obj; rw [hw, hc]
    have hp : ∀ b, P.places b = Q.places b := fun b => by unfold MP.places; rw [hc]
    have hv : ∀ p, P.word p = Q.word p := fun p => by unfold MP.word; rw [hw]
    intro t
    constructor
    · intro g
      induction g with
      | root h1 h2 => exact .root h1 h2
      | step _ h1 h2 h3 ih => rw [hv] at h3 ⊢; rw [ho] at h1; rw [hp] at h2; exact .step ih h1 h2 h3
    · intro g
      induction g with
      | root h1 h2 => exact .root h1 h2
      | step _ h1 h2 h3 ih => rw [← hv] at h3 ⊢; rw [← ho] at h1; rw [← hp] at h2; exact .step ih h1 h2 h3
  intro i hi
  have e1 := (h1 (i : Int)).trans ((hr i).trans (h2 (i : Int)).symm)
  have n1 : isM P.hw.length S.sz (i : Int) ↔ 0 < S.sz i := by
    unfold isM
    rw [Int.toNat_natCast]
    exact ⟨fun g => g.2.2, fun g => ⟨by omega, by omega, g⟩⟩
  have n2 : isM Q.hw.length T.sz (i : Int) ↔ 0 < T.sz i := by
    unfold isM
    rw [Int.toNat_natCast, ← hw]
    exact ⟨fun g => g.2.2, fun g => ⟨by omega, by omega, g⟩⟩
  by_cases g : 0 < S.sz i
  · obtain ⟨b, b1, b2⟩ := s1 i (n1.2 g)
    obtain ⟨c, c1, c2⟩ := s2 i (e1.1 (n1.2 g))
    have : P.obj (i : Int) = Q.obj i := by unfold MP.obj; rw [hw, hc]
    rw [this, c1] at b1
    cases b1
    rw [Int.toNat_natCast] at b2 c2
    omega
  · have : ¬ 0 < T.sz i := fun q => g (n1.1 (e1.2 (n2.2 q)))
    omega
theorem cnt_less (f : Nat → Bool) {a : Nat} (ha : f a = true) : ∀ n, a < n → Bt.cnt f n = Bt.cnt (fun i => f i && !(i == a)) n + 1
  | 0, h => by omega
  | n + 1, h => by
    rw [Bt.cnt, Bt.cnt]
    by_cases e : a = n
    · subst e
      rw [Bt.cnt_congr (f := f) (g := fun i => f i && !(i == a)) (fun j hj => by
        have : (j == a) = false := by simp; omega
        simp only [this]
        simp), ha]
      simp
    · rw [cnt_less f ha n (by omega)]
      have : (n == a) = false := by simp; omega
      simp only [this]
      simp
      omega
/-- How many are marked. -/
theorem marks_of (n : Nat) : ∀ (l : List Int) (f : Nat → Bool), l.Nodup → (∀ t, t ∈ l → 0 ≤ t ∧ t < n) → (∀ i : Nat, i < n → (f i = true ↔ (i : Int) ∈ l)) → Bt.cnt f n = l.length
  | [], f, _, _, h => by
    rw [Bt.cnt_zero fun j hj => ?_]
    · rfl
    · cases e : f j with
      | false => rfl
      | true => have := (h j hj).1 e; cases this
  | t :: l, f, hn, hl, h => by
    obtain ⟨hn1, hn2⟩ := List.nodup_cons.1 hn
    obtain ⟨t0, t1⟩ := hl t (by simp)
    have ht : f t.toNat = true := (h t.toNat (by omega)).2 (by rw [show ((t.toNat : Nat) : Int) = t by omega]; simp)
    rw [cnt_less f ht n (by omega), marks_of n l _ hn2 (fun u hu => hl u (by simp [hu])) (fun i hi => ?_)]
    · rfl
    · simp only [Bool.and_eq_true, Bool.not_eq_true', beq_eq_false_iff_ne, ne_eq]
      rw [h i hi]
      constructor
      · rintro ⟨g1, g2⟩
        rcases List.mem_cons.1 g1 with g | g
        · omega
        · exact g
      · intro g
        refine ⟨List.mem_cons_of_mem _ g, fun e => hn1 ?_⟩
        rw [show t = (i : Int) by omega]
        exact g
theorem marks_len {N : Nat} {sz : Nat → Nat} {l : List Int} (hn : l.Nodup) (h : ∀ t, isM N sz t ↔ t ∈ l) : marksTo sz N = l.length := by
  refine marks_of N l _ hn (fun t ht => ?_) (fun i hi => ?_)
  · have := (h t).2 ht
    exact ⟨this.1, this.2.1⟩
  · rw [← h]
    unfold isM Bt.begs
    rw [Int.toNat_natCast]
    simp
    omega
end Go.Proofs.YtgbclfhgpkmcnaaGreatDoor

/-
  ballastref11.Live of any words ('live_gen'): where it tells that all is right, all that is reached are objects, apart ('right_any').
-/
namespace Go.Proofs.YtgbclfhgpkmcnaaGreatDoor
open Go.RowKit
set_option linter.unusedVariables false
set_option linter.unusedSimpArgs false

/-- What Live tells: right only where Q holds. -/
def LvOut (w : World) (Q : Prop) (e : Ending) (w' : World) : Prop := ∃ v : Value, (e = .returned (.tuple #[v, .bool false]) ∨ (e = .returned (.tuple #[v, .bool true]) ∧ Q)) ∧ Turned [] w w'
theorem left_any {L : List Int} {bs : List Blk} (h : bs.length ≤ 101) {n : Nat} (hn : n ≤ 100) : (n + leftOf (refWords L four) bs (List.replicate bs.length false)) * 8 ≤ 140737488355328 := by
  have h1 := leftOf_new (refWords L four) bs 65535 (fun b _ => by
    have h2 := refWords_length L four b
    have h3 := (refsOf_range four b.k b.n).2
    omega) (List.replicate bs.length false)
  omega
/-- In a heap that can be walked, where nothing is lost, all that the marker reaches are objects that lie apart. -/
theorem right_any {P : MP} {bs : List Blk} {rs : List Int} {f g : Int} (hfg : f ≤ g) (hc : P.cl = four) (h : walkOf P.hw four g f = some bs) (hl : ¬ Lost (objOf bs) (refWords P.hw four) rs) : RightM P rs := by
  have hF := walkOf_facts hfg h
  have hobj : ∀ c, c ∈ bs → c.k ≠ 0 → P.obj c.t = some c := fun c hcb hk => by
    unfold MP.obj
    rw [hc, (hF.each c hcb).2.2]
    simp only
    rw [if_neg hk]
  have hfound : ∀ t, Rch (objOf bs) (refWords P.hw four) rs t → ∃ c, objOf bs t = some c ∧ c ∈ bs ∧ c.k ≠ 0 ∧ t = c.t := fun t g => by
    cases e : objOf bs t with
    | none => exact absurd ⟨t, g, e⟩ hl
    | some c => exact ⟨c, rfl, objOf_some e⟩
  have key : ∀ t, RchM P rs t → Rch (objOf bs) (refWords P.hw four) rs t := fun t g => by
    induction g with
    | root h1 h2 => exact .root h1 h2
    | step g h1 h2 h3 ih =>
      obtain ⟨c, e, hcb, hk, rfl⟩ := hfound _ ih
      rw [hobj c hcb hk] at h1
      cases h1
      exact .next ih e ((word_ref _ hc h3).1 ⟨_, h2, rfl⟩) h3
  refine ⟨fun t g => ?_, fun t u b c g1 g2 h1 h2 hlt => ?_⟩
  · obtain ⟨c, e, hcb, hk, rfl⟩ := hfound _ (key t g)
    exact ⟨c, hobj c hcb hk⟩
  · obtain ⟨b', e1, hb, hk1, rfl⟩ := hfound _ (key t g1)
    obtain ⟨c', e2, hc', hk2, rfl⟩ := hfound _ (key u g2)
    rw [hobj b' hb hk1] at h1
    rw [hobj c' hc' hk2] at h2
    cases h1
    cases h2
    rcases pair_mem hF.rise b c hb hc' with e | e | e
    · subst e; omega
    · exact e
    · have := (readOf_some (hF.each c hc').2.2).2.2.1
      omega
/-- Reach in a heap that can't be walked. -/
theorem rreach_none (d : Nat) (l : List Int) (ao : Option Addr) (len cap : Nat) (cs : List Cls) (f g : Int) (ro : Option Addr) (rn rcap : Nat) (w : World)
    (hl : l.length ≤ 65536) (hv : Doc w d l) (hc : CRd w ao len cs) (hw : 0 ≤ f ∧ f ≤ g ∧ g ≤ l.length) (h : walkOf l cs g f = none) :
    Calls Tryz.prog 36 #[.slice (some ⟨d, 0, none⟩) l.length l.length, .slice ao len cap, .int .i64 f, .int .i64 g, .slice ro rn rcap] w fun e w' => e = .returned (.tuple #[.slice none 0 0, .int .i64 13]) ∧ Turned [] w w' := by
  have HW := hide (rwalk_in d l ao len cap cs f g w hl hv hc hw)
  rw [h] at HW
  simp only [Option.isNone_none] at HW
  rw [if_pos (by decide)] at HW
  clear hv hc h
  go_enter Tryz.func36, Tryz.ntmps36
  go_wp2_with fail
  refine HW.out.mono ?_
  rintro e w1 ⟨v1, rfl, hown, ht1⟩
  have HT1 := hide ht1
  clear ht1 hown HW
  go_wp2_with fail
  go_ret2
  exact ⟨rfl, HT1.out⟩
set_option maxHeartbeats 8000000 in
set_option maxRecDepth 100000 in
theorem live_walk (d : Nat) (L : List Int) (bs : List Blk) (ao : Option Addr) (len cap : Nat) (ro : Option Addr) (rn rcap : Nat) (rs : List Int) (w : World) (N : Nat) (hlen : L.length = N)
    (hwk : walkOf L four N 1 = some bs) (hN : 1 ≤ N ∧ N ≤ 65536) (h64 : ∀ x, x ∈ L → In64 x) (hv : Doc w d L) (hc : CRd w ao len four) (hr : IRd w ro rn rs) (hro : ro = none → rn = 0 ∧ rcap = 0)
    (hm : (rs.length + leftOf (refWords L four) bs (List.replicate bs.length false)) * 8 ≤ 140737488355328) :
    Calls Tryz.prog 15 #[.slice (some ⟨d, 0, none⟩) N N, .slice ao len cap, .int .i64 1, .int .i64 (N : Int), .slice ro rn rcap] w (LvOut w (¬ Lost (objOf bs) (refWords L four) rs)) := by
  have hF := walkOf_facts (show (1 : Int) ≤ N by omega) hwk
  have HRe := hide (rreach_in d L ao len cap four 1 (N : Int) ro rn rcap rs bs w (by omega) h64 hv hc hr ⟨by omega, by omega, by omega⟩ hwk hro hm)
  rw [hlen] at HRe
  have HRd := hide (fun (w' : World) (t : Turned [] w w') (b : Blk) (hb : b ∈ bs) => rread_some d L ao len cap four b.t b w' (by omega) (hv.turned t (by simp)) (hc.turned t) (hF.each b hb).2.2)
  rw [hlen] at HRd
  have HLb := hide (show bs.length ≤ 65536 by have := hF.few; omega)
  obtain ⟨i0, hi, hi0⟩ := Option.map_eq_some_iff.1 Tryz.infoBlock
  simp only [Prod.mk.injEq] at hi0
  obtain ⟨hz0, hz1, hz2⟩ := hi0
  have HI := hide (And.intro hi (And.intro hz0 (And.intro hz1 hz2)))
  clear hi hz0 hz1 hz2 hwk h64 hv hc hr hro hm hF
  go_enter Tryz.func15, Tryz.ntmps15
  go_wp2_with fail
  refine (HRe.out).mono ?_
  rintro e w1 ⟨t1, ⟨rfl, hl⟩ | ⟨v1, R, rfl, hown, hR, hnl⟩⟩
  · have HT1 := hide t1
    clear t1 hl HRe HRd
    go_wp2_with fail
    go_ret2
    exact ⟨_, .inl rfl, HT1.out⟩
  · have HNL := hide hnl
    have HT1 := hide t1
    have HO1 := hide hown
    obtain ⟨V, hV⟩ : ∃ V, V = bs.filter (fun b => decide (b.t ∈ R)) := ⟨_, rfl⟩
    have hto : toldOf bs R = V.map Blk.t := by rw [hV]; rfl
    rw [hto] at HO1
    have HVm : Hid (∀ i b, V[i]? = some b → b ∈ bs) := hide (fun i b hb => by
      have := List.mem_of_getElem? hb
      rw [hV] at this
      exact (List.mem_filter.1 this).1)
    have HVl : Hid (V.length ≤ 65536) := hide (by rw [hV]; exact Nat.le_trans (List.length_filter_le _ _) HLb.out)
    rw [List.length_map] at HO1
    clear t1 hR hown hV hto HRe HLb hnl
    have hshape : ∃ po pc, v1 = .slice po V.length pc := by
      rcases HO1.out.2 with ⟨hv, h0⟩ | ⟨g3, cap3, cur3, hv, _⟩
      · exact ⟨none, 0, by rw [h0]; exact hv⟩
      · exact ⟨_, _, hv⟩
    obtain ⟨po, pc, rfl⟩ := hshape
    have HCe : Hid (∀ i b, V[i]? = some b → ∃ g, po = some ⟨g, 0, none⟩ ∧ w1.cell? ⟨g, i, none⟩ = some (.int .i64 b.t)) := hide (fun i b hb => by
      have hi := (List.getElem?_eq_some_iff.1 hb).1
      rcases HO1.out.2 with ⟨hv, h0⟩ | ⟨g3, cap3, cur3, hv, _, hh, _, _, _, ht⟩
      · omega
      · cases hv
        refine ⟨g3, rfl, ?_⟩
        rw [cell_of_heap hh]
        have h1 : ((V.map Blk.t).map (Value.int .i64))[i]? = some (.int .i64 b.t) := by rw [List.getElem?_map, List.getElem?_map, hb]; rfl
        rw [← ht, List.getElem?_take] at h1
        split at h1
        · simpa using h1
        · cases h1)
    obtain ⟨n, hn⟩ : ∃ n, n = V.length := ⟨_, rfl⟩
    have HN := hide hn
    rw [← hn] at HVl ⊢
    obtain ⟨B, hB'⟩ : ∃ B, B = w1.heap.size := ⟨_, rfl⟩
    have HB1' := hide (show w1.heap.size ≤ B by omega)
    have HB1 := hide (show B ≤ w1.heap.size by omega)
    have HB := hide (show w.heap.size ≤ B by rw [hB']; exact HT1.out.size)
    clear hB'
    have HO0 : Hid (w1.ownsRow B 54 4 (.slice none 0 0) 0 (flat (V.take 0))) := hide ⟨rfl, .inl ⟨rfl, rfl⟩⟩
    clear hn HO1
    go_wp2_with fail
    go_loopg [14, 15] n (fun gg s14 s15 wr => ∃ (i : Nat) (v : Value), v = s14 ∧ s15 = .int .i64 (i : Int) ∧ gg = n - i ∧ i ≤ n ∧ Aside (wr.ownsRow B 54 4 v i (flat (V.take i))) ∧ Aside (Turned [] w1 wr) ∧ Aside (B ≤ wr.heap.size))
    case atStart => exact ⟨0, _, rfl, rfl, rfl, Nat.zero_le _, HO0.out, Turned.refl [] w1, HB1.out⟩
    case round =>
      obtain ⟨i, v, rfl, rfl, rfl, hi, hown, hts, hbs⟩ := hrel
      have HO := hide hown.out
      have HT := hide hts.out
      have HBs := hide hbs.out
      clear hown hts hbs HO0
      by_cases hlt : i < n
      · have hlti : (i : Int) < (n : Int) := by omega
        obtain ⟨b, hb⟩ : ∃ b, V[i]? = some b := ⟨_, List.getElem?_eq_getElem (by rw [← HN.out]; exact hlt)⟩
        obtain ⟨g, rfl, cg⟩ := HCe.out i b hb
        have cg2 : wr.cell? ⟨g, i, none⟩ = some (.int .i64 b.t) := by rw [HT.out.cell (block_lt cg) (by simp)]; exact cg
        have HRb := hide (HRd.out wr (HT1.out.trans HT.out) b (HVm.out i b hb))
        have HTk : Hid (flat (V.take (i + 1)) = flat (V.take i) ++ b.cells) := hide (by rw [List.take_succ_eq_append_getElem (List.getElem?_eq_some_iff.1 hb).1, (List.getElem?_eq_some_iff.1 hb).2, flat_snoc])
        have HLe := hide (show i ≤ 65536 by have := HVl.out; omega)
        have HWi : Hid (wrap64 ((i : Int) + 1) = ((i + 1 : Nat) : Int)) := hide (by have := HVl.out; unfold wrap64; omega)
        obtain ⟨bt, bk, bn, bz⟩ := b
        simp only at cg2 HRb
        clear hb cg
        go_wp2_with fail
        refine (HRb.out).mono ?_
        rintro e w2 ⟨rfl, t2⟩
        have HT2 := hide (HT.out.trans t2)
        have HO2 : Hid (w2.ownsRow B 54 4 v i (flat (V.take i))) := hide (ownsRow_keep HO.out (fun k hk => t2.block k (ownsRow_lt HO.out k hk).2.1 (by simp)))
        have HB3 := hide (Nat.le_trans HBs.out t2.size)
        clear t2 HRb HO HT HBs cg2
        go_upto_region 9 with fail
        obtain ⟨w3, hw3⟩ : ∃ w3, w3 = w2.alloc (.cells #[.int .i64 bt, .int .i64 bk, .int .i64 bn, .int .i64 bz] 54) := ⟨_, rfl⟩
        obtain ⟨bb, hbb⟩ : ∃ bb, bb = w2.heap.size := ⟨_, rfl⟩
        have hh3 : w3.heap[bb]? = some (.cells #[.int .i64 bt, .int .i64 bk, .int .i64 bn, .int .i64 bz] 54) := by rw [hw3, hbb]; exact heap_alloc_new _ _
        have t23 : Turned [] w2 w3 := by rw [hw3]; exact (Turned.refl [] w2).alloc _
        rw [← hw3, ← hbb]
        clear hw3 hbb
        have e0 : w3.cell? ⟨bb, 0, none⟩ = some (.int .i64 bt) := by rw [cell_of_heap hh3]; rfl
        have e1 : w3.cell? ⟨bb, 1, none⟩ = some (.int .i64 bk) := by rw [cell_of_heap hh3]; rfl
        have e2 : w3.cell? ⟨bb, 2, none⟩ = some (.int .i64 bn) := by rw [cell_of_heap hh3]; rfl
        have e3 : w3.cell? ⟨bb, 3, none⟩ = some (.int .i64 bz) := by rw [cell_of_heap hh3]; rfl
        have hbs : ∀ w : World, (Instr.buildSlice 40 1 #[(0, .agg #[.int .i64 bt, .int .i64 bk, .int .i64 bn, .int .i64 bz])]).run Tryz.prog w = .ok (.slice (some ⟨w.heap.size, 0, none⟩) 1 1) (w.alloc (.cells #[.int .i64 bt, .int .i64 bk, .int .i64 bn, .int .i64 bz] 54)) := fun w => by kernel_rfl
        have t24 : Turned [] w2 (w3.alloc (.cells #[.int .i64 bt, .int .i64 bk, .int .i64 bn, .int .i64 bz] 54)) := t23.alloc _
        have HT4 := hide (HT2.out.trans t24)
        have HO4 : Hid ((w3.alloc (.cells #[.int .i64 bt, .int .i64 bk, .int .i64 bn, .int .i64 bz] 54)).ownsRow B 54 4 v i (flat (V.take i))) := hide (ownsRow_keep HO2.out (fun k hk => t24.block k (ownsRow_lt HO2.out k hk).2.1 (by simp)))
        have HB4 := hide (Nat.le_trans HB3.out t24.size)
        have HNw : Hid (∀ j u, (Blk.cells ⟨bt, bk, bn, bz⟩)[j]? = some u → (w3.alloc (.cells #[.int .i64 bt, .int .i64 bk, .int .i64 bn, .int .i64 bz] 54)).cell? ((⟨w3.heap.size, 0, none⟩ : Addr).add j) = some u) := hide (cells_newA w3 #[.int .i64 bt, .int .i64 bk, .int .i64 bn, .int .i64 bz] 54 w3.heap.size rfl)
        clear t23 t24 hh3 HO2 HT2 HB3
        go_wp2_with (at_builtin; refine wpList_append_own _ rfl _ _ 40 rfl B 54 i0 _ 4 32 Tryz.underlying40 HI.out.1 HI.out.2.1 HI.out.2.2.1 HI.out.2.2.2 rfl (by decide) v i (flat (V.take i)) rfl HO4.out ⟨w3.heap.size, 0, none⟩ 1 1 (Blk.cells ⟨bt, bk, bn, bz⟩) rfl rfl HNw.out (Blk.cells_one _) (by have := HLe.out; unfold maxLen; omega) (by have := HLe.out; omega) HB4.out ?_; intro v10 w5 hown hgr hvv)
        have HO5 : Hid (w5.ownsRow B 54 4 v10 (i + 1) (flat (V.take (i + 1)))) := hide (by rw [HTk.out]; exact hown)
        have HT5 : Hid (Turned [] w1 w5) := hide (HT4.out.grown hgr (fun k hk => .inr (Nat.le_trans HB1'.out (ownsRow_lt HO4.out k hk).1)))
        have HB5 := hide (Nat.le_trans HB4.out hgr.size)
        clear hown hgr hvv HO4 HT4 HB4 HNw hbs e0 e1 e2 e3 HTk
        go_wp2_with fail
        go_roundg (n - (i + 1))
        case measure => omega
        case rel => exact ⟨i + 1, _, rfl, by first | exact congrArg (Value.int .i64) HWi.out | go_num, rfl, hlt, HO5.out, HT5.out, HB5.out⟩
      · have hlti : ¬ (i : Int) < (n : Int) := by omega
        have hin : i = n := by omega
        have HT3 := hide (HT1.out.trans HT.out)
        clear hin HO
        go_wp2_with fail
        go_ret2
        exact ⟨v, .inr ⟨rfl, HNL.out⟩, HT3.out⟩
/-- Live of any words. -/
theorem live_gen (d : Nat) (L : List Int) (ao : Option Addr) (len cap : Nat) (ro : Option Addr) (rn rcap : Nat) (rs : List Int) (w : World) (N : Nat) (hlen : L.length = N)
    (hN : 1 ≤ N ∧ N ≤ 100) (h64 : ∀ x, x ∈ L → In64 x) (hv : Doc w d L) (hc : CRd w ao len four) (hr : IRd w ro rn rs) (hro : ro = none → rn = 0 ∧ rcap = 0) (hrl : rs.length ≤ 100) :
    Calls Tryz.prog 15 #[.slice (some ⟨d, 0, none⟩) N N, .slice ao len cap, .int .i64 1, .int .i64 (N : Int), .slice ro rn rcap] w (LvOut w (∃ bs, walkOf L four N 1 = some bs ∧ ¬ Lost (objOf bs) (refWords L four) rs)) := by
  cases hwk : walkOf L four N 1 with
  | some bs =>
    have hF := walkOf_facts (show (1 : Int) ≤ N by omega) hwk
    refine (live_walk d L bs ao len cap ro rn rcap rs w N hlen hwk (by omega) h64 hv hc hr hro (left_any (by have := hF.few; omega) hrl)).mono ?_
    rintro e w' ⟨v, h1 | ⟨h1, h3⟩, h2⟩
    · exact ⟨v, .inl h1, h2⟩
    · exact ⟨v, .inr ⟨h1, bs, rfl, h3⟩, h2⟩
  | none =>
    have HRe := hide (rreach_none d L ao len cap four 1 (N : Int) ro rn rcap w (by omega) hv hc ⟨by omega, by omega, by omega⟩ hwk)
    rw [hlen] at HRe
    clear hwk h64 hv hc hr hro
    go_enter Tryz.func15, Tryz.ntmps15
    go_wp2_with fail
    refine (HRe.out).mono ?_
    rintro e w1 ⟨rfl, t1⟩
    have HT1 := hide t1
    clear t1 HRe
    go_wp2_with fail
    go_ret2
    exact ⟨_, .inl rfl, HT1.out⟩
end Go.Proofs.YtgbclfhgpkmcnaaGreatDoor

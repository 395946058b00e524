/-
  Texts of the proof, several in one: AdjMarks, AdjMd.
-/
import Derived.Test.YtpeglndlhjnaaaaGreatDoorPack21
import Derived.Test.YtpeglndlhjnaaaaGreatDoorPack14
import Derived.Test.YtpeglndlhjnaaaaGreatDoorPack28
import Derived.Test.YtpeglndlhjnaaaaGreatDoorPack23
import Derived.Test.YtpeglndlhjnaaaaGreatDoorPack22
import Derived.Test.YtpeglndlhjnaaaaGreatDoorPack1
/-
  The marks of blocks that lie one behind the other: each is marked, as it is. No Go is walked here.
-/
namespace Go.Proofs.YtpeglndlhjnaaaaGreatDoor
open Go.RowKit Bt
set_option linter.unusedVariables false

noncomputable def mkL (n : Nat) (V : List Blk) : Nat → Nat → Nat
  | 0 => fun _ => 0
  | m + 1 => match V[m]? with
    | some b => (markT n (mkL n V m) b.t b.s).2.2
    | none => mkL n V m
theorem mkL_next {n : Nat} {V : List Blk} {m : Nat} {b : Blk} (h : V[m]? = some b) : mkL n V (m + 1) = (markT n (mkL n V m) b.t b.s).2.2 := by
  show (match V[m]? with | some b => _ | none => _) = _
  rw [h]
theorem mkL_bl (n : Nat) (V : List Blk) (m : Nat) : Bl n (mkL n V m) := by
  induction m with
  | zero => exact Bl.none n
  | succ m ih =>
    cases h : V[m]? with
    | none =>
      have : mkL n V (m + 1) = mkL n V m := by show (match V[m]? with | some b => _ | none => _) = _; rw [h]
      rw [this]; exact ih
    | some b => rw [mkL_next h]; exact markT_bl ih _ _
/-- Blocks one behind the other, in so many words. -/
structure Rowed (n : Nat) (V : List Blk) : Prop where
  each : ∀ (i : Nat) b, V[i]? = some b → 1 ≤ b.t ∧ 1 ≤ b.s ∧ b.t + b.s ≤ n
  rise : ∀ (i j : Nat) (a b : Blk), i < j → V[i]? = some a → V[j]? = some b → a.t + a.s ≤ b.t
/-- Which blocks are marked. -/
structure Marked (S : Nat → Nat) (V : List Blk) (m : Nat) : Prop where
  on : ∀ (k : Nat) b, k < m → V[k]? = some b → S b.t.toNat = b.s.toNat
  off : ∀ i, 0 < S i → ∃ (k : Nat) (b : Blk), k < m ∧ V[k]? = some b ∧ b.t = (i : Int) ∧ b.s = (S i : Nat)
theorem mkL_marked {n : Nat} {V : List Blk} (h : Rowed n V) : ∀ m, m ≤ V.length → Marked (mkL n V m) V m := by
  intro m
  induction m with
  | zero => intro _; exact ⟨fun k b hk => absurd hk (Nat.not_lt_zero k), fun i hi => absurd hi (Nat.lt_irrefl 0)⟩
  | succ m ih =>
    intro hm
    have ih := ih (by omega)
    obtain ⟨b, hb⟩ : ∃ b, V[m]? = some b := ⟨_, List.getElem?_eq_getElem (by omega)⟩
    obtain ⟨b1, b2, b3⟩ := h.each m b hb
    obtain ⟨t, ht⟩ : ∃ t : Nat, b.t = (t : Int) := ⟨b.t.toNat, by omega⟩
    obtain ⟨z, hz⟩ : ∃ z : Nat, b.s = (z : Int) := ⟨b.s.toNat, by omega⟩
    have hno : ¬ 0 < mkL n V m t := fun h0 => by
      obtain ⟨k, a, k1, k2, k3, k4⟩ := ih.off t h0
      have := h.rise k m a b k1 k2 hb
      have := (h.each k a k2).2.1
      omega
    have hfree : Free (mkL n V m) t z := fun k k1 k2 => by
      unfold live
      rw [bo_false]
      rintro ⟨a, c1, c2⟩
      obtain ⟨k', a', g1, g2, g3, g4⟩ := ih.off a (by omega)
      have := h.rise k' m a' b g1 g2 hb
      omega
    have hS : mkL n V (m + 1) = upd (mkL n V m) t z := by
      rw [mkL_next hb]
      unfold markT
      rw [if_neg (by omega), if_neg (by omega), ht, hz, Int.toNat_natCast, Int.toNat_natCast, if_neg hno, if_pos hfree]
    rw [hS]
    refine ⟨fun k a hk ha => ?_, fun i hi => ?_⟩
    · by_cases e : k = m
      · subst e
        rw [hb] at ha
        cases ha
        rw [ht, hz, Int.toNat_natCast, Int.toNat_natCast, upd_at]
      · have h1 := h.rise k m a b (by omega) ha hb
        have h2 := h.each k a ha
        rw [upd_ne _ (by omega)]
        exact ih.on k a (by omega) ha
    · by_cases e : i = t
      · subst e
        rw [upd_at]
        exact ⟨m, b, by omega, hb, ht, hz⟩
      · rw [upd_ne _ e] at hi ⊢
        obtain ⟨k, a, k1, k2⟩ := ih.off i hi
        exact ⟨k, a, by omega, k2⟩
/-- The blocks of what is reached lie one behind the other. -/
theorem conn_rise : ∀ (bs : List Blk) (t top : Int), conn t bs top → (∀ b, b ∈ bs → 1 ≤ b.s) → bs.Pairwise (fun a b => a.t + a.s ≤ b.t) ∧ ∀ b, b ∈ bs → t ≤ b.t ∧ b.t + b.s ≤ top
  | [], t, top, h, _ => ⟨List.Pairwise.nil, by simp⟩
  | b :: bs, t, top, ⟨h1, h2, h3⟩, hs => by
    obtain ⟨p1, p2⟩ := conn_rise bs _ top h3 (fun c hc => hs c (by simp [hc]))
    have hb := hs b (by simp)
    have h4 := (conn_le _ _ _ h3).1
    refine ⟨List.Pairwise.cons (fun c hc => by have := (p2 c hc).1; omega) p1, fun c hc => ?_⟩
    rcases List.mem_cons.1 hc with rfl | hc
    · omega
    · have := p2 c hc; omega
theorem live_rowed {N : Nat} {L : List Int} {top : Int} {bs : List Blk} (h : Hd N L top bs) (R : List Int) : Rowed N (liveBs bs R) := by
  have hs : ∀ b, b ∈ bs → 1 ≤ b.s := fun b hb => by
    have := (readOf_some (h.chain.read b hb).1)
    omega
  obtain ⟨p1, p2⟩ := conn_rise bs 1 top h.chain.chain hs
  have hlow := h.chain.low
  have hp : (liveBs bs R).Pairwise (fun a b => a.t + a.s ≤ b.t) := p1.filter _
  refine ⟨fun i b hb => ?_, fun i j a b hij ha hb => ?_⟩
  · have hm := (List.mem_filter.1 (List.mem_of_getElem? hb)).1
    have := p2 b hm
    have := hs b hm
    omega
  · obtain ⟨hi, e1⟩ := List.getElem?_eq_some_iff.1 ha
    obtain ⟨hj, e2⟩ := List.getElem?_eq_some_iff.1 hb
    have := List.pairwise_iff_getElem.1 hp i j hi hj hij
    rw [e1, e2] at this
    exact this
end Go.Proofs.YtpeglndlhjnaaaaGreatDoor

/-
  What the statements of layer 14 begin with (ballastlaw14.made): a heap with its marks and its plan.
-/
namespace Go.Proofs.YtpeglndlhjnaaaaGreatDoor
open Go.RowKit Bt
set_option linter.unusedVariables false
set_option linter.unusedSimpArgs false

theorem makes_uniq14 {n : Nat} {S : Nat → Nat} (hs : Bl n S) {f t k v : Nat} {P Q : PN} (hP : Makes S f t k v P) (hQ : Makes S f t k v Q) (h1 : f ≤ t) (h2 : t ≤ 65536) (h3 : 1 ≤ k) (h4 : k ≤ 65536) (hc : NoCut S t) : P = Q := by
  have a := makes_more hs hP hQ (Nat.le_refl _) h1 h2 h3 h4 hc
  have b := makes_more hs hQ hP (Nat.le_refl _) h1 h2 h3 h4 hc
  have e1 := hP.f_
  have e2 := hP.t_
  have e3 := hP.k_
  have e4 := hQ.f_
  have e5 := hQ.t_
  have e6 := hQ.k_
  obtain ⟨f1, t1, k1, d1, g1⟩ := P
  obtain ⟨f2, t2, k2, d2, g2⟩ := Q
  simp only at *
  have : d1 = d2 := by omega
  have : g1 = g2 := by omega
  subst e1 e2 e3 e4 e5 e6
  simp_all
theorem over_all14 (l m : List Int) (h : m.length = l.length) : over l 0 m = m := by unfold over; simp [h]
def wdC14 (cp : Nat) (wv : Value) (bp rp : Nat) (P : PN) (l a wt tk : Value) : Array Value := #[.pointer (some ⟨cp, 0, none⟩), wv, .pointer (some ⟨bp, 0, none⟩), .pointer (some ⟨rp, 0, none⟩), .int .i64 P.f, .int .i64 P.t, .int .i64 P.k, .int .i64 P.d, .int .i64 P.e, l, a, wt, tk]
theorem own_opens14 {w : World} {B : Nat} {e : TypeId} {sz : Nat} {v : Value} {n : Nat} {xs : List Value} (h : w.ownsRow B e sz v n xs) : ∃ ao cap, v = .slice ao n cap := by
  rcases h.2 with ⟨hv, h0⟩ | ⟨g, cap, cur, hv, _⟩
  · exact ⟨none, 0, by rw [h0]; exact hv⟩
  · exact ⟨_, cap, hv⟩
theorem own_low14 {w : World} {A B : Nat} {e : TypeId} {sz : Nat} {v : Value} {n : Nat} {xs : List Value} (h : w.ownsRow B e sz v n xs) (hA : A ≤ B) : w.ownsRow A e sz v n xs := by
  refine ⟨h.1, ?_⟩
  rcases h.2 with h0 | ⟨g, cap, cur, hv, hg, h1⟩
  · exact .inl h0
  · exact .inr ⟨g, cap, cur, hv, Nat.le_trans hA hg, h1⟩
theorem roots_obj14 {bs : List Blk} {at_ : List Int} (h : at_ = bs.map Blk.t) (ls : List Int) : ∀ r, r ∈ ls.map (rootOf at_) → r = 0 ∨ ∃ b, b ∈ bs ∧ r = b.t := by
  intro r hr
  obtain ⟨x, _, rfl⟩ := List.mem_map.1 hr
  unfold rootOf
  split
  · rw [List.getD_eq_getElem?_getD]
    cases e : at_[x.toNat % at_.length]? with
    | none => exact .inl rfl
    | some y =>
      right
      have hy := List.mem_of_getElem? e
      rw [h] at hy
      obtain ⟨b, hb, rfl⟩ := List.mem_map.1 hy
      exact ⟨b, hb, rfl⟩
  · exact .inl rfl
theorem roots_in14 {N : Nat} {L : List Int} {top : Int} {bs : List Blk} (h : Hd N L top bs) (hN : N ≤ 65536) {rs : List Int} (hr : ∀ r, r ∈ rs → r = 0 ∨ ∃ b, b ∈ bs ∧ r = b.t) : AllIn rs := fun x hx => by
  rcases hr x hx with rfl | ⟨b, hb, rfl⟩
  · unfold In64; omega
  · have h1 := readOf_some (h.chain.read b hb).1
    have h2 := h.chain.len
    unfold In64
    omega
theorem left_few14 {L : List Int} {N : Nat} {top : Int} {bs : List Blk} (h : bs.length ≤ 100) {n : Nat} (hn : n ≤ 100) : (n + leftOf (refWords L four) (bs ++ tail4 N top) (List.replicate (bs ++ tail4 N top).length false)) * 8 ≤ 140737488355328 := by
  have h1 := leftOf_new (refWords L four) (bs ++ tail4 N top) 65535 (fun b _ => by
    have h2 := refWords_length L four b
    have h3 := (refsOf_range four b.k b.n).2
    omega) (List.replicate (bs ++ tail4 N top).length false)
  have h4 : (bs ++ tail4 N top).length ≤ 101 := by
    rw [List.length_append]
    unfold tail4
    split <;> simp <;> omega
  omega
theorem flat_at14 {cur : Array Value} {V : List Blk} {n : Nat} (ht : List.take n cur.toList = flat V) {i : Nat} {b : Blk} (hb : V[i]? = some b) (j : Nat) (hj : j < 4) {x : Int} (hx : b.cells[j]? = some (.int .i64 x)) : cur[i * 4 + j]? = some (.int .i64 x) := by
  have h1 := flat_get V i b j hb hj
  rw [hx, ← ht, List.getElem?_take] at h1
  split at h1
  · simpa using h1
  · cases h1
theorem less_next14 {n i i1 : Nat} (h : i1 = i + 1) (hlt : i < n) : n - i1 < n - i := by omega
theorem le_next14 {n i i1 : Nat} (h : i1 = i + 1) (hlt : i < n) : i1 ≤ n := by omega
theorem wrap_next14 {n i i1 : Nat} (h : i1 = i + 1) (hlt : i < n) (hn : n ≤ 65536) : wrap64 ((i : Int) + 1) = (i1 : Int) := by unfold wrap64; omega
theorem cast_next14 {i i1 : Nat} (h : i1 = i + 1) : ((i : Int) + 1) = (i1 : Int) := by omega
def P00 : PN := ⟨0, 0, 0, 0, 0⟩
def nine14 (w : World) (xb : Nat) (P : PN) (l a wt tk : Value) : World := ((((((((w.setCell ⟨xb, 4, none⟩ (.int .i64 P.f)).setCell ⟨xb, 5, none⟩ (.int .i64 P.t)).setCell ⟨xb, 6, none⟩ (.int .i64 P.k)).setCell ⟨xb, 7, none⟩ (.int .i64 P.d)).setCell ⟨xb, 8, none⟩ (.int .i64 P.e)).setCell ⟨xb, 9, none⟩ l).setCell ⟨xb, 10, none⟩ a).setCell ⟨xb, 11, none⟩ wt).setCell ⟨xb, 12, none⟩ tk
theorem nine14_set {w : World} {xb cp bp rp : Nat} {Q : PN} {wv u0 u1 u2 u3 : Value} {T : TypeId} (h : w.heap[xb]? = some (.cells (wdC14 cp wv bp rp Q u0 u1 u2 u3) T)) (P : PN) (l a wt tk : Value) : (nine14 w xb P l a wt tk).heap[xb]? = some (.cells (wdC14 cp wv bp rp P l a wt tk) T) := by
  unfold nine14
  have s : ∀ {w : World} {c : Array Value} (i : Nat) (v : Value), w.heap[xb]? = some (.cells c T) → (w.setCell ⟨xb, i, none⟩ v).heap[xb]? = some (.cells (c.setIfInBounds i v) T) := fun i v h => heap_setCell_at _ _ _ _ _ _ h _
  rw [s 12 tk (s 11 wt (s 10 a (s 9 l (s 8 _ (s 7 _ (s 6 _ (s 5 _ (s 4 _ h))))))))]
  simp [wdC14]
theorem nine14_turned (w : World) (xb : Nat) (P : PN) (l a wt tk : Value) : Turned [xb] w (nine14 w xb P l a wt tk) := by
  unfold nine14
  exact (((((((((Turned.refl [xb] w).setCell (p := ⟨xb, 4, none⟩) (.inl (by simp)) _).setCell (p := ⟨xb, 5, none⟩) (.inl (by simp)) _).setCell (p := ⟨xb, 6, none⟩) (.inl (by simp)) _).setCell (p := ⟨xb, 7, none⟩) (.inl (by simp)) _).setCell (p := ⟨xb, 8, none⟩) (.inl (by simp)) _).setCell (p := ⟨xb, 9, none⟩) (.inl (by simp)) _).setCell (p := ⟨xb, 10, none⟩) (.inl (by simp)) _).setCell (p := ⟨xb, 11, none⟩) (.inl (by simp)) _).setCell (p := ⟨xb, 12, none⟩) (.inl (by simp)) _

theorem noCut1L {N : Nat} {V : List Blk} (h : Rowed N V) : NoCut (mkL N V V.length) 1 := fun a h1 h2 => by
  have ha : a = 0 := by omega
  subst ha
  obtain ⟨k, b, _, hb, e1, _⟩ := (mkL_marked h V.length (Nat.le_refl _)).off 0 (by omega)
  have := (h.each k b hb).1
  omega

/-- Things that lie in memory through made: by types of blocks, what is turned leaves them. -/
structure T14 (w wr : World) (xb cp cq dq : Nat) (ml L : List Int) (bp rp : Nat) (dv : Value) (P : PN) (l a wt tk : Value) : Prop where
  head : wr.heap[xb]? = some (.cells (wdC14 cp dv bp rp P l a wt tk) 44)
  mem : Mem wr cp cq ml 0
  doc : Doc wr dq L
  t : Turned [] w wr
  lo : w.heap.size ≤ xb ∧ w.heap.size ≤ cp ∧ w.heap.size ≤ cq
  dne : dq ≠ cp ∧ dq ≠ cq
theorem T14.keep {w wr w' : World} {xb cp cq dq : Nat} {ml L : List Int} {bp rp : Nat} {dv : Value} {P : PN} {l a wt tk : Value} (h : T14 w wr xb cp cq dq ml L bp rp dv P l a wt tk) {T : List Nat} (t : Turned T wr w') (hT : ∀ i, i ∈ T → w.heap.size ≤ i ∧ ∃ c e fr, wr.heap[i]? = some (.cells c e fr) ∧ (e = 164 ∨ e = 3)) : T14 w w' xb cp cq dq ml L bp rp dv P l a wt tk := by
  have hn : ∀ (x : Nat) (c : Array Value) (e : TypeId) (fr : Nat × Nat), wr.heap[x]? = some (.cells c e fr) → e ≠ 164 → e ≠ 3 → x ∉ T := by
    intro x c e fr hx h1 h2 hm
    obtain ⟨_, c2, e2, fr2, h3, h4⟩ := hT x hm
    rw [hx] at h3
    cases h3
    rcases h4 with h4 | h4
    · exact h1 h4
    · exact h2 h4
  exact ⟨by rw [t.block _ (lt_of_heap h.head) (hn _ _ _ _ h.head (by decide) (by decide))]; exact h.head, h.mem.turned t (hn _ _ _ _ h.mem.head (by decide) (by decide)) (hn _ _ _ _ h.mem.row (by decide) (by decide)), h.doc.turned t (hn _ _ _ _ h.doc.row (by decide) (by decide)), h.t.trans_new t (fun i hi => .inr (hT i hi).1), h.lo, h.dne⟩

/-- What made leaves. -/
structure W14 (w w' : World) (xb cp cq bp bq rp rq dq N : Nat) (L : List Int) (S : Nat → Nat) (P : PN) (l a : Value) (wq tq : Nat) : Prop where
  th : T14 w w' xb cp cq dq L L bp rp (.slice (some ⟨dq, 0, none⟩) N N) P l a (slc wq P.R) (slc tq P.R)
  bts : Bts w' bp bq N (sidesOf S)
  rb : RB w' rp rq N S
  dpl : DPl w' P S l a wq tq

theorem T14.nine {w wr : World} {xb cp cq dq : Nat} {ml L : List Int} {bp rp : Nat} {dv : Value} {P0 : PN} {u0 u1 u2 u3 : Value} (h : T14 w wr xb cp cq dq ml L bp rp dv P0 u0 u1 u2 u3) (P : PN) (l a wt tk : Value) : T14 w (nine14 wr xb P l a wt tk) xb cp cq dq ml L bp rp dv P l a wt tk := by
  have t := nine14_turned wr xb P l a wt tk
  have hn : ∀ (x : Nat) (c : Array Value) (e : TypeId) (fr : Nat × Nat), wr.heap[x]? = some (.cells c e fr) → e ≠ 44 → x ∉ [xb] := fun x c e fr hx he => by simpa using ne_of_type hx h.head he
  exact ⟨nine14_set h.head P l a wt tk, h.mem.turned t (hn _ _ _ _ h.mem.head (by decide)) (hn _ _ _ _ h.mem.row (by decide)), h.doc.turned t (hn _ _ _ _ h.doc.row (by decide)), h.t.trans_new t (fun i hi => .inr (by simp at hi; subst hi; exact h.lo.1)), h.lo, h.dne⟩
theorem dpl_nine14 {w : World} {P Q : PN} {S : Nat → Nat} {l a : Value} {wq tq : Nat} (hd : DPl w P S l a wq tq) {xb cp bp rp : Nat} {wv u0 u1 u2 u3 : Value} (hx : w.heap[xb]? = some (.cells (wdC14 cp wv bp rp Q u0 u1 u2 u3) 44)) (l2 a2 wt2 tk2 : Value) : DPl (nine14 w xb P l2 a2 wt2 tk2) P S l a wq tq := by
  have t := nine14_turned w xb P l2 a2 wt2 tk2
  have hty : ∀ (x : Nat) (c : Array Value) (e : TypeId) (fr : Nat × Nat), w.heap[x]? = some (.cells c e fr) → e ≠ 44 → x ∉ [xb] := fun x c e fr h he => by simpa using ne_of_type h hx he
  have hown : ∀ (B : Nat) (v : Value) (n : Nat) (xs : List Value), w.ownsRow B 3 1 v n xs → (nine14 w xb P l2 a2 wt2 tk2).ownsRow B 3 1 v n xs := fun B v n xs ho => ownsRow_keep ho (fun i hi => t.block i (ownsRow_lt ho i hi).2.1 (by
    obtain ⟨_, _, c, hc⟩ := ownsRow_lt ho i hi
    exact hty _ _ _ _ hc (by decide)))
  obtain ⟨⟨B1, d1⟩, ⟨B2, d2⟩, d3, d4⟩ := hd
  refine ⟨⟨B1, hown _ _ _ _ d1⟩, ⟨B2, hown _ _ _ _ d2⟩, d3.turned t ?_, d4.turned t ?_⟩
  · obtain ⟨c, hc, _⟩ := d3
    exact hty _ _ _ _ hc (by decide)
  · obtain ⟨c, hc, _⟩ := d4
    exact hty _ _ _ _ hc (by decide)

set_option maxHeartbeats 8000000 in
set_option maxRecDepth 100000 in
theorem lmade14 (ao : Option Addr) (cap : Nat) (ths : List Th) (bo : Option Addr) (bcap : Nat) (ls : List Int) (k v N : Nat) (w : World) (h : ThR w ao ths) (hl : IRd w bo ls.length ls) (hN : 2 ≤ N ∧ N ≤ 1000) (hths : ths.length ≤ 100) (hls : ls.length ≤ 100) (hk : 1 ≤ k) (hk2 : k ≤ 65536) (hv : v ≤ 1000000) (hT : Tab w) :
    Calls Tryz.prog 8 #[.slice ao ths.length cap, .slice bo ls.length bcap, .int .i64 (k : Int), .int .i64 (v : Int), .int .i64 (N : Int)] w fun e w' => ∃ (xb cp cq bp bq rp rq dq : Nat) (P : PN) (l a : Value) (wq tq : Nat) (R : List Int) (bs : List Blk) (top : Int) (rv : Value), e = .returned (.tuple #[.pointer (some ⟨xb, 0, none⟩), rv]) ∧ W14 w w' xb cp cq bp bq rp rq dq N (heapOf ths N).1 (mkL N (liveBs bs R) (liveBs bs R).length) P l a wq tq ∧ Makes (mkL N (liveBs bs R) (liveBs bs R).length) 1 N k v P ∧ Hd N (heapOf ths N).1 top bs ∧ (heapOf ths N).2 = bs.map Blk.t ∧ (∀ x, x ∈ R ↔ Rch (objOf (bs ++ tail4 N top)) (refWords (heapOf ths N).1 four) (ls.map (rootOf (heapOf ths N).2)) x) ∧ (∃ B, w.heap.size ≤ B ∧ cp < B ∧ cq < B ∧ w'.ownsRow B 2 1 rv ls.length ((ls.map (rootOf (heapOf ths N).2)).map (Value.int .i64))) ∧ Turned [] w w' := by
  obtain ⟨top, bs, hHd, hat⟩ := heapOf_hd ths N (by omega)
  have hlen := heapOf_len ths N (by omega)
  have hfew := heapOf_few ths N
  have hin := heapOf_in ths N (by omega) (by omega) (by omega)
  have HTab := hide hT
  have HL := hide hl
  have HH := hide (fun w' (t : Turned [] w w') => heap11_any ao cap N ths w' (h.turned t) (by omega) (by omega))
  have HBn := hide (fun (w' : World) (t : Turned [] w w') => Bt.new_any (N : Int) w' ⟨by omega, by omega⟩ (HTab.out.turned t (by simp)))
  have HRn := hide (fun (w' : World) (t : Turned [] w w') => rnew_any (N : Int) w' ⟨by omega, by omega⟩ (HTab.out.turned t (by simp)))
  rw [show kp 65536 (N : Int) = N by unfold kp; omega] at HBn HRn
  have HCells := hide (fun (w' : World) => new_any (N : Int) w')
  rw [show (min (max (N : Int) 0) 65536).toNat = N by omega] at HCells
  clear h hl hT
  generalize (heapOf ths N).1 = L at *
  generalize (heapOf ths N).2 = at_ at *
  obtain ⟨rs, hrs⟩ : ∃ rs, rs = ls.map (rootOf at_) := ⟨_, rfl⟩
  rw [← hrs]
  have hrsl : ls.length = rs.length := by rw [hrs]; simp
  have HRs := hide hrs
  have HRl := hide hrsl
  have HAt := hide hat
  have HLen := hide hlen
  have HHd0 := hide hHd
  have HIn := hide hin
  clear hrs hrsl hat
  go_enter Tryz.func8, Tryz.ntmps8
  go_wp2_with fail
  refine (HBn.out w (Turned.refl [] w)).mono ?_
  rintro e w1 ⟨bp, bq, rfl, hb1, hp1, hq1, t1⟩
  have HB1 := hide hb1
  have HT1 := hide t1
  have HP1 := hide (And.intro hp1 hq1)
  clear hb1 hp1 hq1 t1 HBn
  go_wp2_with fail
  refine (HRn.out w1 HT1.out).mono ?_
  rintro e w2 ⟨rp, rq, rfl, hr2, hp2, hq2, t2⟩
  have HB2 := hide (HB1.out.turned0 t2)
  have HR2 := hide hr2
  have HT2 := hide (HT1.out.trans t2)
  have HP2 := hide (And.intro hp2 hq2)
  clear hr2 hp2 hq2 t2 HRn HB1
  go_wp2_with fail
  refine (HCells.out w2).mono ?_
  rintro e w3 ⟨rfl, hm3, t3, hs3⟩
  have HB3 := hide (HB2.out.turned0 t3)
  have HR3 := hide (HR2.out.turned0 t3)
  have HT3 := hide (HT2.out.trans t3)
  have HM3 := hide hm3
  have HZ3 := hide (show w.heap.size ≤ w2.heap.size from HT2.out.size)
  clear hm3 t3 hs3 HCells HB2 HR2 HT2
  go_upto_region 2 with fail
  obtain ⟨xb, hxb⟩ : ∃ xb, xb = w3.heap.size := ⟨_, rfl⟩
  obtain ⟨w4, hw4⟩ : ∃ w4, w4 = w3.alloc (.cells (wdC14 (w2.heap.size + 1) (.slice none 0 0) bp rp P00 (.slice none 0 0) (.slice none 0 0) (.slice none 0 0) (.slice none 0 0)) 44) := ⟨_, rfl⟩
  have hh4 : w4.heap[xb]? = some (.cells (wdC14 (w2.heap.size + 1) (.slice none 0 0) bp rp P00 (.slice none 0 0) (.slice none 0 0) (.slice none 0 0) (.slice none 0 0)) 44) := by rw [hw4, hxb]; exact heap_alloc_new _ _
  have t34 : Turned [] w3 w4 := by rw [hw4]; exact (Turned.refl [] w3).alloc _
  obtain ⟨cp, hcp⟩ : ∃ cp, cp = w2.heap.size + 1 := ⟨_, rfl⟩
  obtain ⟨cq, hcq⟩ : ∃ cq, cq = w2.heap.size := ⟨_, rfl⟩
  have HHd4 := hide hh4
  have HM4 := hide (HM3.out.turned t34 (by simp) (by simp))
  have HB4 := hide (HB3.out.turned0 t34)
  have HR4 := hide (HR3.out.turned0 t34)
  have HT4 := hide (HT3.out.trans t34)
  have HLo := hide (show w.heap.size ≤ xb ∧ w.heap.size ≤ cp ∧ w.heap.size ≤ cq by have := HT3.out.size; have := HZ3.out; omega)
  unfold wdC14 P00 at hw4
  rw [← hxb]
  rw [show (w3.alloc (.cells #[.pointer (some ⟨w2.heap.size + 1, 0, none⟩), .slice none 0 0, .pointer (some ⟨bp, 0, none⟩), .pointer (some ⟨rp, 0, none⟩), .int .i64 0, .int .i64 0, .int .i64 0, .int .i64 0, .int .i64 0, .slice none 0 0, .slice none 0 0, .slice none 0 0, .slice none 0 0] 44)) = w4 from hw4.symm]
  rw [← hcp] at HHd4 HM4
  rw [← hcq] at HM4
  clear hw4 hxb hcp hcq hh4 t34 HM3 HB3 HR3 HT3 HZ3
  have HH4 := hide (HH.out w4 HT4.out)
  go_wp2_with fail
  refine (HH4.out).mono ?_
  rintro e w5 ⟨dq, av, rfl, hp5⟩
  have HP5 := hide hp5
  have HHd5 : Hid (w5.heap[xb]? = some (.cells (wdC14 cp (.slice none 0 0) bp rp P00 (.slice none 0 0) (.slice none 0 0) (.slice none 0 0) (.slice none 0 0)) 44)) := hide (by rw [hp5.t.block xb (lt_of_heap HHd4.out) (by simp)]; exact HHd4.out)
  have d1 : w5.cell? ⟨xb, 1, none⟩ = some (.slice none 0 0) := by rw [cell_of_heap HHd5.out]; rfl
  have f1 : w5.frozen? ⟨xb, 1, none⟩ = false := by simp [World.frozen?, HHd5.out]
  have bl := lt_of_heap HHd5.out
  have HDq := hide (show dq ≠ xb from fun e => by have := lt_of_heap HHd4.out; have := hp5.lo; omega)
  clear hp5 HH4 HH
  obtain ⟨w6, hw6⟩ : ∃ w6, w6 = w5.setCell ⟨xb, 1, none⟩ (.slice (some ⟨dq, 0, none⟩) N N) := ⟨_, rfl⟩
  have t56 : Turned [xb] w5 w6 := by rw [hw6]; exact (Turned.refl [xb] w5).setCell (p := ⟨xb, 1, none⟩) (.inl (by simp)) _
  have hty : ∀ (x : Nat) (c : Array Value) (e : TypeId) (fr : Nat × Nat), w5.heap[x]? = some (.cells c e fr) → e ≠ 44 → x ∉ [xb] := fun x c e fr hx he => by simpa using ne_of_type hx HHd5.out he
  have t45 := HP5.out.t
  have HHd6 : Hid (w6.heap[xb]? = some (.cells (wdC14 cp (.slice (some ⟨dq, 0, none⟩) N N) bp rp P00 (.slice none 0 0) (.slice none 0 0) (.slice none 0 0) (.slice none 0 0)) 44)) := hide (by rw [hw6, heap_setCell_at _ _ 1 _ _ _ HHd5.out]; rfl)
  have hm5 := HM4.out.turned t45 (by simp) (by simp)
  have hb5 := HB4.out.turned0 t45
  have hr5 := HR4.out.turned0 t45
  have HM6 := hide (hm5.turned t56 (hty _ _ _ _ hm5.head (by decide)) (hty _ _ _ _ hm5.row (by decide)))
  have HB6 := hide (hb5.turned t56 (hty _ _ _ _ hb5.head (by decide)) (by obtain ⟨c, hc, _⟩ := hb5.row; exact hty _ _ _ _ hc (by decide)) (by have := HLo.out.1; have := HTab.out 0 (by omega); have := block_lt this; simp; omega))
  have HR6 := hide (hr5.turned t56 (hty _ _ _ _ hr5.head (by decide)) (by obtain ⟨c, hc, _⟩ := hr5.row; exact hty _ _ _ _ hc (by decide)))
  have HD6 := hide (HP5.out.doc.turned t56 (hty _ _ _ _ HP5.out.doc.row (by decide)))
  have HA6 : Hid (w6.ownsRow w4.heap.size 3 1 av at_.length (at_.map (Value.int .i64))) := hide (ownsRow_keep HP5.out.row (fun i hi => t56.block i (ownsRow_lt HP5.out.row i hi).2.1 (by
    obtain ⟨_, _, c, hc⟩ := ownsRow_lt HP5.out.row i hi
    exact hty _ _ _ _ hc (by decide))))
  have HT6 : Hid (Turned [] w w6) := hide ((HT4.out.trans t45).trans_new t56 (fun i hi => .inr (by simp at hi; subst hi; exact HLo.out.1)))
  have HDn := hide (show dq ≠ cp ∧ dq ≠ cq by have h1 := HP5.out.lo; have h2 := HM4.out.ltp; have h3 := HM4.out.ltq; omega)
  clear t56 hty t45 hm5 hb5 hr5 HHd4 HM4 HB4 HR4 HT4
  go_upto_region 4 with fail
  rw [← hw6]
  clear hw6 d1 f1 bl HP5 HHd5 HDq
  have d0 : w6.cell? ⟨xb, 0, none⟩ = some (.pointer (some ⟨cp, 0, none⟩)) := by rw [cell_of_heap HHd6.out]; rfl
  have HPu : Hid (Calls Tryz.prog 25 #[.pointer (some ⟨cp, 0, none⟩), .int .i64 0, .slice (some ⟨dq, 0, none⟩) N N] w6 fun e w' => e = .returned (.int .i64 0) ∧ Mem w' cp cq L 0 ∧ Turned [cp, cq] w6 w') := hide (by
    have h3 := put_in cp cq (List.replicate N 0) 0 0 dq 0 N L w6 (by simp; omega) (by simp [hlen]) (by rw [hlen]; omega) HM6.out (fun j x hx => by rw [Nat.zero_add]; exact HD6.out.word hx)
    rw [over_all14 _ _ (by simp [hlen]), hlen] at h3
    exact h3)
  go_wp2_with fail
  refine (HPu.out).mono ?_
  rintro e w7 ⟨rfl, hm7, t7⟩
  have hty : ∀ (x : Nat) (c : Array Value) (e : TypeId) (fr : Nat × Nat), w6.heap[x]? = some (.cells c e fr) → e ≠ 86 → e ≠ 2 → x ∉ [cp, cq] := fun x c e fr hx e1 e2 => by
    have a1 := ne_of_type hx HM6.out.head e1
    have a2 := ne_of_type hx HM6.out.row e2
    simp; omega
  have HTh : Hid (T14 w w7 xb cp cq dq L L bp rp (.slice (some ⟨dq, 0, none⟩) N N) P00 (.slice none 0 0) (.slice none 0 0) (.slice none 0 0) (.slice none 0 0)) := hide ⟨by rw [t7.block xb (lt_of_heap HHd6.out) (hty _ _ _ _ HHd6.out (by decide) (by decide))]; exact HHd6.out, hm7, HD6.out.turned t7 (by have := HDn.out; simp; omega), HT6.out.trans_new t7 (fun i hi => .inr (by have := HLo.out; simp at hi; omega)), HLo.out, HDn.out⟩
  have HB7 := hide (HB6.out.turned t7 (hty _ _ _ _ HB6.out.head (by decide) (by decide)) (by obtain ⟨c, hc, _⟩ := HB6.out.row; exact hty _ _ _ _ hc (by decide) (by decide)) (by have := HLo.out; have := block_lt (HTab.out 0 (by omega)); simp; omega))
  have HR7 := hide (HR6.out.turned t7 (hty _ _ _ _ HR6.out.head (by decide) (by decide)) (by obtain ⟨c, hc, _⟩ := HR6.out.row; exact hty _ _ _ _ hc (by decide) (by decide)))
  have HA7 : Hid (w7.ownsRow w4.heap.size 3 1 av at_.length (at_.map (Value.int .i64))) := hide (ownsRow_keep HA6.out (fun i hi => t7.block i (ownsRow_lt HA6.out i hi).2.1 (by
    obtain ⟨_, _, c, hc⟩ := ownsRow_lt HA6.out i hi
    exact hty _ _ _ _ hc (by decide) (by decide))))
  clear hm7 t7 hty HPu HM6 HB6 HR6 HD6 HA6 HT6 HHd6 d0
  obtain ⟨aa, ac, hav⟩ : ∃ aa ac, av = .slice aa at_.length ac := by
    rcases HA7.out.2 with ⟨hv, h0⟩ | ⟨g3, cap3, cur3, hv, _⟩
    · exact ⟨none, 0, by rw [h0]; exact hv⟩
    · exact ⟨_, _, hv⟩
  subst hav
  have HRo := hide (roots11 aa ac at_ bo bcap ls w7 (fun i x hx => by
    have hi := (List.getElem?_eq_some_iff.1 hx).1
    rcases HA7.out.2 with ⟨hv, h0⟩ | ⟨g3, cap3, cur3, hv, _, hh, _, _, _, ht⟩
    · omega
    · cases hv
      refine ⟨g3, rfl, ?_⟩
      rw [cell_of_heap hh]
      have h1 : (at_.map (Value.int .i64))[i]? = some (.int .i64 x) := by rw [List.getElem?_map, hx]; rfl
      rw [← ht, List.getElem?_take] at h1
      split at h1
      · simpa using h1
      · cases h1) (by omega) (HL.out.turned HTh.out.t) (by omega))
  rw [← HRs.out] at HRo
  go_wp2_with fail
  refine (HRo.out).mono ?_
  rintro e w8 ⟨rv, rfl, hro, t8⟩
  have HRw := hide hro
  have HTh8 := hide (HTh.out.keep t8 (by simp))
  have HB8 := hide (HB7.out.turned0 t8)
  have HR8 := hide (HR7.out.turned0 t8)
  have HZ7 := hide (show w.heap.size ≤ w7.heap.size ∧ cp < w7.heap.size ∧ cq < w7.heap.size from ⟨HTh.out.t.size, HTh.out.mem.ltp, HTh.out.mem.ltq⟩)
  clear hro t8 HRo HA7 HTh HB7 HR7
  obtain ⟨ra, rc, hrv⟩ : ∃ ra rc, rv = .slice ra rs.length rc := by
    rcases HRw.out.2 with ⟨hv, h0⟩ | ⟨g3, cap3, cur3, hv, _⟩
    · exact ⟨none, 0, by rw [← HRl.out, h0]; exact hv⟩
    · exact ⟨_, _, by rw [← HRl.out]; exact hv⟩
  subst hrv
  have HFo := hide (four_any w8)
  go_wp2_with fail
  refine (HFo.out).mono ?_
  rintro e w9 ⟨cb, rfl, hc9, t9, hcb⟩
  have HTh9 := hide (HTh8.out.keep t9 (by simp))
  have HB9 := hide (HB8.out.turned0 t9)
  have HR9 := hide (HR8.out.turned0 t9)
  have HRw9 : Hid (w9.ownsRow w7.heap.size 2 1 (.slice ra rs.length rc) ls.length (rs.map (Value.int .i64))) := hide (ownsRow_keep HRw.out (fun i hi => t9.block i (ownsRow_lt HRw.out i hi).2.1 (by simp)))
  have HRo0 : Hid (∀ r, r ∈ rs → r = 0 ∨ ∃ b, b ∈ bs ∧ r = b.t) := hide (by rw [HRs.out]; exact roots_obj14 HAt.out ls)
  have hbl : bs.length ≤ 100 := by
    have h1 := congrArg List.length HAt.out
    rw [List.length_map] at h1
    omega
  have HRi : Hid (IRd w9 ra rs.length rs) := hide (by
    refine ⟨rfl, by have := HRl.out; omega, fun i x hx => ?_, roots_in14 HHd0.out (by omega) HRo0.out⟩
    have hi := (List.getElem?_eq_some_iff.1 hx).1
    rcases HRw9.out.2 with ⟨hv2, h0⟩ | ⟨g3, cap3, cur3, hv2, _, hh, _, _, _, ht⟩
    · have := HRl.out; omega
    · injection hv2 with e1 e2 e3
      refine ⟨g3, 0, e1, ?_⟩
      rw [Nat.zero_add, cell_of_heap hh]
      have h1 : (rs.map (Value.int .i64))[i]? = some (.int .i64 x) := by rw [List.getElem?_map, hx]; rfl
      rw [← ht, List.getElem?_take] at h1
      split at h1
      · simpa using h1
      · cases h1)
  have HRn0 : Hid (ra = none → rs.length = 0 ∧ rc = 0) := hide (fun e => by
    rcases HRw9.out.2 with ⟨hv2, h0⟩ | ⟨g3, cap3, cur3, hv2, _⟩
    · injection hv2 with e1 e2 e3
      exact ⟨e2, e3⟩
    · injection hv2 with e1 e2 e3
      rw [e] at e1
      cases e1)
  have HLm : Hid ((rs.length + leftOf (refWords L four) (bs ++ tail4 N top) (List.replicate (bs ++ tail4 N top).length false)) * 8 ≤ 140737488355328) := hide (left_few14 hbl (by have := HRl.out; omega))
  have HBl0 := hide hbl
  clear hbl
  have HLv := hide (live11 dq N L top bs (some ⟨cb, 0, none⟩) 4 4 ra rs.length rc rs w9 HHd0.out (by omega) (fun x hx => HIn.out x hx) HTh9.out.doc hc9.rd HRi.out HRn0.out HRo0.out (Nat.le_trans HBl0.out (by decide)) HLm.out)
  clear HRi HRn0 HLm
  clear hc9 t9 HFo HTh8 HB8 HR8 HRw
  go_wp2_with fail
  refine (HLv.out).mono ?_
  rintro e w10 ⟨vv, R, rfl, hown, hR, t10⟩
  have HTh10 := hide (HTh9.out.keep t10 (by simp))
  have HB10 := hide (HB9.out.turned0 t10)
  have HR10 := hide (HR9.out.turned0 t10)
  have HRw10 : Hid (w10.ownsRow w7.heap.size 2 1 (.slice ra rs.length rc) ls.length (rs.map (Value.int .i64))) := hide (ownsRow_keep HRw9.out (fun i hi => t10.block i (ownsRow_lt HRw9.out i hi).2.1 (by simp)))
  have HRR := hide hR
  obtain ⟨V, hV⟩ : ∃ V, V = liveBs bs R := ⟨_, rfl⟩
  rw [← hV] at hown
  have HVr : Hid (Rowed N V) := hide (by rw [hV]; exact live_rowed HHd0.out R)
  have HVe := hide hV
  have HOw := hide hown
  obtain ⟨va, vc, hvv⟩ : ∃ va vc, vv = .slice va V.length vc := by
    rcases hown.2 with ⟨hv, h0⟩ | ⟨g3, cap3, cur3, hv, _⟩
    · exact ⟨none, 0, by rw [h0]; exact hv⟩
    · exact ⟨_, _, hv⟩
  subst hvv
  obtain ⟨n, hn⟩ : ∃ n, n = V.length := ⟨_, rfl⟩
  have HN := hide hn
  have HVn : Hid (n ≤ 65536) := hide (by
    rw [hn, hV]
    refine Nat.le_trans (List.length_filter_le _ _) ?_
    have h1 := congrArg List.length HAt.out
    rw [List.length_map] at h1
    omega)
  have HCe : Hid (∀ i b, V[i]? = some b → ∃ g c, va = some ⟨g, 0, none⟩ ∧ w10.heap[g]? = some (.cells c 76) ∧ c[i * 4]? = some (.int .i64 b.t) ∧ c[i * 4 + 3]? = some (.int .i64 b.s)) := hide (fun i b hb => by
    have hi := (List.getElem?_eq_some_iff.1 hb).1
    rcases HOw.out.2 with ⟨hv, h0⟩ | ⟨g3, cap3, cur3, hv, _, hh, _, _, _, ht⟩
    · omega
    · cases hv
      refine ⟨g3, cur3, rfl, hh, ?_, ?_⟩
      · exact flat_at14 ht hb 0 (by decide) rfl
      · exact flat_at14 ht hb 3 (by decide) rfl)
  rw [← hn]
  clear hown hR hV hn t10 HLv HTh9 HB9 HR9 HRw9 HOw
  go_wp2_with fail
  go_loopg [18] n (fun gg s18 wr => ∃ (i : Nat), gg = n - i ∧ i ≤ n ∧ s18 = .int .i64 (i : Int) ∧ Hid (Bts wr bp bq N (sidesOf (mkL N V i))) ∧ Hid (RB wr rp rq N (mkL N V i)) ∧ Hid (Turned [bq, rq] w10 wr))
  case atStart => exact ⟨0, rfl, Nat.zero_le _, rfl, HB10, HR10, hide (Turned.refl _ _)⟩
  case round =>
    obtain ⟨i, rfl, hi, rfl, HB, HR, HT⟩ := hrel
    obtain ⟨w11, hw11⟩ : ∃ w11, w11 = wr := ⟨_, rfl⟩
    subst hw11
    by_cases hlt : i < n
    · have hlti : (i : Int) < (n : Int) := by omega
      obtain ⟨b, hb⟩ : ∃ b, V[i]? = some b := ⟨_, List.getElem?_eq_getElem (by have := HN.out; omega)⟩
      obtain ⟨g, c, hva, hgh, hc0, hc3⟩ := HCe.out i b hb
      subst hva
      obtain ⟨At, bc, bl, Z⟩ := b
      simp only at hc0 hc3
      have hgl := lt_of_heap hgh
      have hgn : g ≠ bq ∧ g ≠ rq := by
        obtain ⟨c1, h1, _⟩ := HB10.out.row
        obtain ⟨c2, h2, _⟩ := HR10.out.row
        exact ⟨ne_of_type hgh h1 (by decide), ne_of_type hgh h2 (by decide)⟩
      have hgh1 : w11.heap[g]? = some (.cells c 76) := by rw [HT.out.block g hgl (by simp; omega)]; exact hgh
      have c1 : w11.cell? ⟨g, i * 4, none⟩ = some (.int .i64 At) := by rw [cell_of_heap hgh1]; exact hc0
      have c2 : w11.cell? ⟨g, i * 4 + 3, none⟩ = some (.int .i64 Z) := by rw [cell_of_heap hgh1]; exact hc3
      have hxn : xb ≠ bq ∧ xb ≠ rq := by
        obtain ⟨c1, h1, _⟩ := HB10.out.row
        obtain ⟨c2, h2, _⟩ := HR10.out.row
        exact ⟨ne_of_type HTh10.out.head h1 (by decide), ne_of_type HTh10.out.head h2 (by decide)⟩
      have hxh := HTh10.out.head
      rw [← HT.out.block xb (lt_of_heap HTh10.out.head) (by simp; omega)] at hxh
      have d2 : w11.cell? ⟨xb, 2, none⟩ = some (.pointer (some ⟨bp, 0, none⟩)) := by rw [cell_of_heap hxh]; rfl
      have d3 : w11.cell? ⟨xb, 3, none⟩ = some (.pointer (some ⟨rp, 0, none⟩)) := by rw [cell_of_heap hxh]; rfl
      have hnx := mkL_next (n := N) hb
      have hin2 : In64 At ∧ In64 Z := by
        obtain ⟨e1, e2, e3⟩ := HVr.out.each i _ hb
        simp only at e1 e2 e3
        exact ⟨by unfold In64; omega, by unfold In64; omega⟩
      have HMk := hide (mark_any bp bq N (mkL N V i) At Z · · (mkL_bl N V i) hin2.2)
      have HMk2 := hide (rmark_any rp rq N (mkL N V i) At Z · hin2.2 ·)
      simp only at hnx
      rw [← hnx] at HMk HMk2
      generalize (markT N (mkL N V i) At Z).1 = t1 at *
      generalize (markT N (mkL N V i) At Z).2.1 = t2 at *
      have hne : rp ≠ bq ∧ rq ≠ bq ∧ bp ≠ rq ∧ bq ≠ rq := by
        obtain ⟨c1, h1, _⟩ := HB10.out.row
        obtain ⟨c2, h2, _⟩ := HR10.out.row
        exact ⟨ne_of_type HR10.out.head h1 (by decide), ne_of_type h2 h1 (by decide), ne_of_type HB10.out.head h2 (by decide), ne_of_type h1 h2 (by decide)⟩
      have HX := hide (And.intro hgn (And.intro hxn (And.intro hne HTab.out)))
      clear hnx hb hc0 hc3 hgh hgh1 hgn hxn hxh hin2 hne hgl
      go_wp2_with fail
      go_region_held3 (fun w' => w'.cell? ⟨xb, 2, none⟩ = some (.pointer (some ⟨bp, 0, none⟩)) ∧ w'.cell? ⟨g, i * 4, none⟩ = some (.int .i64 At) ∧ w'.cell? ⟨g, i * 4 + 3, none⟩ = some (.int .i64 Z)) (go_keep)
        (first
          | (go_at_call 28; refine (HMk.out _ (HB.out.turned0 (Turned.refl [] w11).drew)).mono ?_; rintro e w12 ⟨rfl, hb7, ht7⟩; have z1 : w12.cell? ⟨g, i * 4, none⟩ = some (.int .i64 At) := (by rw [ht7.cell (block_lt c1) (by simpa using HX.out.1.1)]; exact c1); have z2 : w12.cell? ⟨g, i * 4 + 3, none⟩ = some (.int .i64 Z) := (by rw [ht7.cell (block_lt c2) (by simpa using HX.out.1.1)]; exact c2); have z3 : w12.cell? ⟨xb, 2, none⟩ = some (.pointer (some ⟨bp, 0, none⟩)) := (by rw [ht7.cell (block_lt d2) (by simpa using HX.out.2.1.1)]; exact d2); have z4 : w12.cell? ⟨xb, 3, none⟩ = some (.pointer (some ⟨rp, 0, none⟩)) := (by rw [ht7.cell (block_lt d3) (by simpa using HX.out.2.1.1)]; exact d3); have HB12 := hide hb7; have HT12 := hide ((Turned.refl [bq] w11).drew.trans ht7); clear hb7 ht7))
      have HR12 := hide (HR.out.turned HT12.out (by have := HX.out.2.2.1; simp; omega) (by have := HX.out.2.2.1; simp; omega))
      clear c1 c2 d2 d3
      go_wp2_with fail
      go_region_held3 (fun w' => w'.cell? ⟨xb, 3, none⟩ = some (.pointer (some ⟨rp, 0, none⟩)) ∧ w'.cell? ⟨g, i * 4, none⟩ = some (.int .i64 At) ∧ w'.cell? ⟨g, i * 4 + 3, none⟩ = some (.int .i64 Z)) (go_keep)
        (first
          | (go_at_call 29; refine (HMk2.out _ (HR12.out.turned0 (Turned.refl [] w12).drew)).mono ?_; rintro e w13 ⟨rfl, hr8, ht8⟩; have q1 : w13.cell? ⟨g, i * 4, none⟩ = some (.int .i64 At) := (by rw [ht8.cell (block_lt z1) (by simpa using HX.out.1.2)]; exact z1); have q2 : w13.cell? ⟨g, i * 4 + 3, none⟩ = some (.int .i64 Z) := (by rw [ht8.cell (block_lt z2) (by simpa using HX.out.1.2)]; exact z2); have q3 : w13.cell? ⟨xb, 3, none⟩ = some (.pointer (some ⟨rp, 0, none⟩)) := (by rw [ht8.cell (block_lt z4) (by simpa using HX.out.2.1.2)]; exact z4); have HR13 := hide hr8; have HT13 := hide ((Turned.refl [rq] w12).drew.trans ht8); clear hr8 ht8))
      have HB13 := hide (HB12.out.turned HT13.out (by have := HX.out.2.2.1; simp; omega) (by have := HX.out.2.2.1; simp; omega) (by have h0 := HX.out.2.2.2 0 (by omega); have := block_lt h0; have := HP2.out.2; have := HT1.out.size; simp; omega))
      have HT14 : Hid (Turned [bq, rq] w10 w13) := hide (HT.out.trans ((HT12.out.mono (by simp)).trans (HT13.out.mono (by simp))))
      clear z1 z2 z3 z4 q1 q2 q3 HB12 HR12 HT12 HT13 HMk HMk2
      obtain ⟨i1, hi1⟩ : ∃ i1 : Nat, i1 = i + 1 := ⟨_, rfl⟩
      have HW1 := hide (wrap_next14 hi1 hlt HVn.out)
      have HI1 := hide (cast_next14 hi1)
      have hw1 := HW1.out
      have HMe := hide (less_next14 hi1 hlt)
      have HLe := hide (le_next14 hi1 hlt)
      rw [← hi1] at HB13 HR13
      clear hi1 hlt
      go_wp2_with fail
      go_roundg (n - i1)
      case measure => exact HMe.out
      case rel => exact ⟨i1, rfl, HLe.out, by first | rfl | exact congrArg (Value.int .i64) HI1.out | exact congrArg (Value.int .i64) HW1.out, HB13, HR13, HT14⟩
    · have hin : i = n := by omega
      subst hin
      have hlti : ¬ (i : Int) < (i : Int) := by omega
      obtain ⟨S, hS⟩ : ∃ S, S = mkL N V i := ⟨_, rfl⟩
      have HBl : Hid (Bl N S) := hide (by rw [hS]; exact mkL_bl N V i)
      have HC1 : Hid (NoCut S 1) := hide (by rw [hS, HN.out]; exact noCut1L HVr.out)
      have HCN : Hid (NoCut S N) := hide (noCutN HBl.out)
      have HSe := hide hS
      rw [← hS] at HB HR
      clear hS
      have HTh11 : Hid (T14 w w11 xb cp cq dq L L bp rp (.slice (some ⟨dq, 0, none⟩) N N) P00 (.slice none 0 0) (.slice none 0 0) (.slice none 0 0) (.slice none 0 0)) := hide (HTh10.out.keep HT.out (fun j hj => by
        obtain ⟨c1, h1, _⟩ := HB10.out.row
        obtain ⟨c2, h2, _⟩ := HR10.out.row
        have hp1 := HP1.out
        have hp2 := HP2.out
        have hz := HT1.out.size
        rcases List.mem_cons.1 hj with rfl | hj
        · exact ⟨hp1.2, _, _, _, h1, .inl rfl⟩
        · have e : j = rq := by simpa using hj
          subst e
          exact ⟨by omega, _, _, _, h2, by decide⟩))
      have HRw11 : Hid (w11.ownsRow w7.heap.size 2 1 (.slice ra rs.length rc) ls.length (rs.map (Value.int .i64))) := hide (ownsRow_keep HRw10.out (fun j hj => HT.out.block j (ownsRow_lt HRw10.out j hj).2.1 (by
        obtain ⟨_, _, c, hc⟩ := ownsRow_lt HRw10.out j hj
        obtain ⟨c1, h1, _⟩ := HB10.out.row
        obtain ⟨c2, h2, _⟩ := HR10.out.row
        have a1 := ne_of_type hc h1 (by decide)
        have a2 := ne_of_type hc h2 (by decide)
        simp
        omega)))
      have HMk := hide (fun (w' : World) (t : Turned [] w11 w') => make_ok bp N S 1 N k v w' (HB.out.turned0 t).brd HBl.out (by omega) (Nat.le_refl _) hk hk2 hv HC1.out HCN.out)
      have HMr := hide (fun (w' : World) (t : Turned [] w11 w') => rmake13 rp rq N S 1 N k v w' (HR.out.turned0 t) (by omega) (Nat.le_refl _) hk hk2 hv HC1.out HCN.out)
      rw [show ((1 : Nat) : Int) = 1 from rfl] at HMk HMr
      have hxh := HTh11.out.head
      have d2 : w11.cell? ⟨xb, 2, none⟩ = some (.pointer (some ⟨bp, 0, none⟩)) := by rw [cell_of_heap hxh]; rfl
      have d3 : w11.cell? ⟨xb, 3, none⟩ = some (.pointer (some ⟨rp, 0, none⟩)) := by rw [cell_of_heap hxh]; rfl
      clear hxh HT HCe HRw10 HTh10
      go_wp2_with fail
      refine (HMk.out w11 (Turned.refl [] w11)).mono ?_
      rintro e w12 ⟨P, lq, aq, wq, tq, rfl, hM, hPl, t12⟩
      have HM12 := hide hM
      have HT12 := hide t12
      have d3' : w12.cell? ⟨xb, 3, none⟩ = some (.pointer (some ⟨rp, 0, none⟩)) := by rw [t12.cell (block_lt d3) (by simp)]; exact d3
      have dl12 := block_lt d3'
      have hal : ∀ o : Obj, Turned [] w11 (w12.alloc o) := fun o => t12.trans ((Turned.refl [] w12).alloc o)
      have HAl := hide hal
      clear hal
      unfold plC slc
      clear hM hPl t12 d2 d3 HMk
      go_wp2_with fail
      refine (HMr.out _ (HAl.out _)).mono ?_
      rintro e w13 ⟨Q, l, a, wq2, tq2, rfl, hM2, hD2, t13⟩
      have HQ := hide (makes_uniq14 HBl.out hM2 HM12.out (by omega) (by omega) hk hk2 HCN.out)
      have hQ := HQ.out
      subst hQ
      have HDp := hide hD2
      have HT13 := hide ((HAl.out _).trans t13)
      obtain ⟨lo, lc, rfl⟩ : ∃ lo lc, l = .slice lo Q.R lc := own_opens14 hD2.lv.choose_spec
      obtain ⟨ho, hc, rfl⟩ : ∃ ho hc, a = .slice ho Q.R hc := own_opens14 hD2.ah.choose_spec
      unfold plC slc
      have h13p := (t13.block w12.heap.size (lt_of_heap (heap_alloc_new _ _)) (by simp)).trans (heap_alloc_new _ _)
      clear hM2 hD2 t13 d3' HMr HQ HT12 HAl dl12
      have H13p := hide h13p
      clear h13p
      go_upto_region 14 with fail
      obtain ⟨pb, hpb⟩ : ∃ pb, pb = w12.heap.size := ⟨_, rfl⟩
      obtain ⟨qb, hqb⟩ : ∃ qb, qb = w13.heap.size := ⟨_, rfl⟩
      obtain ⟨w14, hw14⟩ : ∃ w14, w14 = w13.alloc (.cells #[.int .i64 (Q.f : Int), .int .i64 (Q.t : Int), .int .i64 (Q.k : Int), .int .i64 (Q.d : Int), .int .i64 (Q.e : Int), .slice lo Q.R lc, .slice ho Q.R hc, .slice (some ⟨wq2, 0, none⟩) Q.R Q.R, .slice (some ⟨tq2, 0, none⟩) Q.R Q.R] 42) := ⟨_, rfl⟩
      have hh14q : w14.heap[qb]? = some (.cells #[.int .i64 (Q.f : Int), .int .i64 (Q.t : Int), .int .i64 (Q.k : Int), .int .i64 (Q.d : Int), .int .i64 (Q.e : Int), .slice lo Q.R lc, .slice ho Q.R hc, .slice (some ⟨wq2, 0, none⟩) Q.R Q.R, .slice (some ⟨tq2, 0, none⟩) Q.R Q.R] 42) := by rw [hw14, hqb]; exact heap_alloc_new _ _
      have t14 : Turned [] w13 w14 := by rw [hw14]; exact (Turned.refl [] w13).alloc _
      have h14p := H13p.out
      rw [← t14.block _ (lt_of_heap h14p) (by simp)] at h14p
      have HT14' := hide (HT13.out.trans t14)
      have HD14 := hide (HDp.out.turned0 t14)
      rw [← hpb, ← hqb, ← hw14]
      rw [← hpb] at h14p
      clear hpb hqb hw14 t14 HT13 HDp H13p
      have p3 : w14.cell? ⟨pb, 3, none⟩ = some (.int .i64 (Q.d : Int)) := by rw [cell_of_heap h14p]; rfl
      have p4 : w14.cell? ⟨pb, 4, none⟩ = some (.int .i64 (Q.e : Int)) := by rw [cell_of_heap h14p]; rfl
      have q3 : w14.cell? ⟨qb, 3, none⟩ = some (.int .i64 (Q.d : Int)) := by rw [cell_of_heap hh14q]; rfl
      have q4 : w14.cell? ⟨qb, 4, none⟩ = some (.int .i64 (Q.e : Int)) := by rw [cell_of_heap hh14q]; rfl
      have HH14 := hide hh14q
      clear h14p hh14q
      go_upto_region 16 with fail
      have hxh14 := HTh11.out.head
      rw [← HT14'.out.block xb (lt_of_heap HTh11.out.head) (by simp)] at hxh14
      have dlx := lt_of_heap hxh14
      have dfx : ∀ i, w14.frozen? ⟨xb, i, none⟩ = false := fun i => by simp [World.frozen?, hxh14]
      have e4 : w14.cell? ⟨xb, 4, none⟩ = some (.int .i64 0) := by rw [cell_of_heap hxh14]; rfl
      have e5 : w14.cell? ⟨xb, 5, none⟩ = some (.int .i64 0) := by rw [cell_of_heap hxh14]; rfl
      have e6 : w14.cell? ⟨xb, 6, none⟩ = some (.int .i64 0) := by rw [cell_of_heap hxh14]; rfl
      have e7 : w14.cell? ⟨xb, 7, none⟩ = some (.int .i64 0) := by rw [cell_of_heap hxh14]; rfl
      have e8 : w14.cell? ⟨xb, 8, none⟩ = some (.int .i64 0) := by rw [cell_of_heap hxh14]; rfl
      have e9 : w14.cell? ⟨xb, 9, none⟩ = some (.slice none 0 0) := by rw [cell_of_heap hxh14]; rfl
      have e10 : w14.cell? ⟨xb, 10, none⟩ = some (.slice none 0 0) := by rw [cell_of_heap hxh14]; rfl
      have e11 : w14.cell? ⟨xb, 11, none⟩ = some (.slice none 0 0) := by rw [cell_of_heap hxh14]; rfl
      have e12 : w14.cell? ⟨xb, 12, none⟩ = some (.slice none 0 0) := by rw [cell_of_heap hxh14]; rfl
      have q0 : w14.cell? ⟨qb, 0, none⟩ = some (.int .i64 (Q.f : Int)) := by rw [cell_of_heap HH14.out]; rfl
      have q1 : w14.cell? ⟨qb, 1, none⟩ = some (.int .i64 (Q.t : Int)) := by rw [cell_of_heap HH14.out]; rfl
      have q2 : w14.cell? ⟨qb, 2, none⟩ = some (.int .i64 (Q.k : Int)) := by rw [cell_of_heap HH14.out]; rfl
      have q5 : w14.cell? ⟨qb, 5, none⟩ = some (.slice lo Q.R lc) := by rw [cell_of_heap HH14.out]; rfl
      have q6 : w14.cell? ⟨qb, 6, none⟩ = some (.slice ho Q.R hc) := by rw [cell_of_heap HH14.out]; rfl
      have q7 : w14.cell? ⟨qb, 7, none⟩ = some (.slice (some ⟨wq2, 0, none⟩) Q.R Q.R) := by rw [cell_of_heap HH14.out]; rfl
      have q8 : w14.cell? ⟨qb, 8, none⟩ = some (.slice (some ⟨tq2, 0, none⟩) Q.R Q.R) := by rw [cell_of_heap HH14.out]; rfl
      have HXh := hide hxh14
      clear hxh14
      go_wp2_with fail
      have hw15 : ∀ w15, w15 = nine14 w14 xb Q (.slice lo Q.R lc) (.slice ho Q.R hc) (slc wq2 Q.R) (slc tq2 Q.R) → (W14 w w15 xb cp cq bp bq rp rq dq N L S Q (.slice lo Q.R lc) (.slice ho Q.R hc) wq2 tq2 ∧ w15.ownsRow w7.heap.size 2 1 (.slice ra rs.length rc) ls.length (rs.map (Value.int .i64))) := by
        rintro w15 rfl
        have t := nine14_turned w14 xb Q (.slice lo Q.R lc) (.slice ho Q.R hc) (slc wq2 Q.R) (slc tq2 Q.R)
        have hty : ∀ (x : Nat) (c : Array Value) (e : TypeId) (fr : Nat × Nat), w14.heap[x]? = some (.cells c e fr) → e ≠ 44 → x ∉ [xb] := fun x c e fr hx he => by simpa using ne_of_type hx HXh.out he
        have hb := HB.out.turned0 HT14'.out
        have hr := HR.out.turned0 HT14'.out
        have th := HTh11.out.keep HT14'.out (by simp)
        have hrow := ownsRow_keep HRw11.out (fun j hj => HT14'.out.block j (ownsRow_lt HRw11.out j hj).2.1 (by simp))
        refine ⟨⟨th.nine Q _ _ _ _, hb.turned t (hty _ _ _ _ hb.head (by decide)) (by obtain ⟨c, hc, _⟩ := hb.row; exact hty _ _ _ _ hc (by decide)) (by have := HLo.out.1; have := block_lt (HTab.out 0 (by omega)); simp; omega), hr.turned t (hty _ _ _ _ hr.head (by decide)) (by obtain ⟨c, hc, _⟩ := hr.row; exact hty _ _ _ _ hc (by decide)), dpl_nine14 HD14.out HXh.out _ _ _ _⟩, ?_⟩
        exact ownsRow_keep hrow (fun j hj => t.block j (ownsRow_lt hrow j hj).2.1 (by
          obtain ⟨_, _, c, hc⟩ := ownsRow_lt hrow j hj
          exact hty _ _ _ _ hc (by decide)))
      obtain ⟨hW15, hrow15⟩ := hw15 _ rfl
      have hSL : mkL N (liveBs bs R) (liveBs bs R).length = S := by rw [← HVe.out, ← HN.out]; exact HSe.out.symm
      go_ret2
      exact ⟨xb, cp, cq, bp, bq, rp, rq, dq, Q, .slice lo Q.R lc, .slice ho Q.R hc, wq2, tq2, R, bs, top, _, rfl, by rw [hSL]; exact hW15, by rw [hSL]; exact HM12.out, HHd0.out, HAt.out, HRR.out, ⟨w7.heap.size, HZ7.out.1, HZ7.out.2.1, HZ7.out.2.2, hrow15⟩, hW15.th.t⟩
end Go.Proofs.YtpeglndlhjnaaaaGreatDoor

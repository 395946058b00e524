/-
  Objects laid one behind the other, without memory: what they are read as, walked as, and what they refer to. No Go is walked here.
-/
import Derived.Test.YtkidcbehjhlnkaaBlocksLaid
namespace Go.Proofs.Ytkidcbehjhlnkaa
set_option linter.unusedVariables false

/-- Blocks one behind the other, from a place to another one. -/
def conn : Int → List Blk → Int → Prop
  | t, [], u => t = u
  | t, b :: bs, u => b.t = t ∧ 1 ≤ b.s ∧ conn (t + b.s) bs u
theorem conn_snoc : ∀ (bs : List Blk) (t u : Int) (b : Blk), conn t bs u → b.t = u → 1 ≤ b.s → conn t (bs ++ [b]) (u + b.s)
  | [], t, u, b, h, hb, hs => by
    have h : t = u := h
    subst h
    exact ⟨hb, hs, rfl⟩
  | c :: bs, t, u, b, ⟨h1, h2, h3⟩, hb, hs => ⟨h1, h2, conn_snoc bs _ u b h3 hb hs⟩
theorem conn_le : ∀ (bs : List Blk) (t u : Int), conn t bs u → t ≤ u ∧ ∀ b, b ∈ bs → t ≤ b.t ∧ b.t + b.s ≤ u ∧ 1 ≤ b.s
  | [], t, u, h => by
    have h : t = u := h
    subst h
    exact ⟨Int.le_refl _, fun b hb => by cases hb⟩
  | c :: bs, t, u, ⟨h1, h2, h3⟩ => by
    obtain ⟨h4, h5⟩ := conn_le bs _ u h3
    refine ⟨by omega, fun b hb => ?_⟩
    rcases List.mem_cons.1 hb with rfl | hb
    · exact ⟨by omega, by omega, h2⟩
    · have := h5 b hb
      exact ⟨by omega, this.2⟩
theorem conn_apart : ∀ (bs : List Blk) (t u : Int), conn t bs u → bs.Pairwise (fun a b => a.t + a.s ≤ b.t)
  | [], t, u, h => List.Pairwise.nil
  | c :: bs, t, u, ⟨h1, h2, h3⟩ => List.pairwise_cons.2 ⟨fun b hb => by have := ((conn_le bs _ u h3).2 b hb).1; omega, conn_apart bs _ u h3⟩
theorem pair_mem {bs : List Blk} (h : bs.Pairwise (fun a b => a.t + a.s ≤ b.t)) : ∀ a b, a ∈ bs → b ∈ bs → a = b ∨ a.t + a.s ≤ b.t ∨ b.t + b.s ≤ a.t := by
  induction bs with
  | nil => intro a b ha; cases ha
  | cons c bs ih =>
    obtain ⟨h1, h2⟩ := List.pairwise_cons.1 h
    intro a b ha hb
    rcases List.mem_cons.1 ha with ea | ha2
    · rcases List.mem_cons.1 hb with eb | hb2
      · exact .inl (by rw [ea, eb])
      · subst ea; exact .inr (.inl (h1 b hb2))
    · rcases List.mem_cons.1 hb with eb | hb2
      · subst eb; exact .inr (.inr (h1 a ha2))
      · exact ih h2 a b ha2 hb2

/-- References stand within their object. -/
theorem refs_within {cs : List Cls} {k n : Int} (h : (sizeOf cs k n).2 = 0) : refsOf cs k n + 1 ≤ (sizeOf cs k n).1 := by
  unfold refsOf sizeOf told at *
  split at h
  · simp at h
  · rename_i c hc
    split at h
    · rename_i hn
      have := clsAt_few hc hn
      simp only [if_pos hn, gSize, gRefs]
      omega
    · simp at h
theorem refWords_length (l : List Int) (cs : List Cls) (b : Blk) : ((refWords l cs b).length : Int) ≤ refsOf cs b.k b.n := by
  have h := refsOf_range cs b.k b.n
  unfold refWords
  have h1 := List.length_filterMap_le (fun i => wordAt l (b.t + i)) (rowTo (refsOf cs b.k b.n).toNat)
  rw [rowTo_length] at h1
  omega
theorem refWords_mem {l : List Int} {cs : List Cls} {b : Blk} {y : Int} (h : y ∈ refWords l cs b) : ∃ i : Int, 1 ≤ i ∧ i ≤ refsOf cs b.k b.n ∧ wordAt l (b.t + i) = some y := by
  unfold refWords at h
  obtain ⟨i, hi, hy⟩ := List.mem_filterMap.1 h
  have hr := refsOf_range cs b.k b.n
  unfold rowTo at hi
  obtain ⟨j, hj, rfl⟩ := List.mem_map.1 hi
  simp at hj
  exact ⟨(j : Int) + 1, by omega, by omega, hy⟩

/-- Objects of the three classes, one behind the other from 1 on; what they refer to is among them. -/
structure Chain (L : List Int) (top : Int) (bs : List Blk) : Prop where
  len : L.length = 500
  inn : AllIn L
  to : conn 1 bs top
  low : top ≤ 500
  read : ∀ b, b ∈ bs → readOf L threeCs b.t = some b ∧ 1 ≤ b.k
  refs : ∀ b, b ∈ bs → ∀ y, y ∈ refWords L threeCs b → y = 0 ∨ ∃ c, c ∈ bs ∧ y = c.t

theorem chain_nil : Chain (List.replicate 500 0) 1 [] :=
  ⟨List.length_replicate, allIn_zeros _, rfl, by omega, fun b hb => (by cases hb), fun b hb => (by cases hb)⟩
theorem Chain.top1 {L : List Int} {top : Int} {bs : List Blk} (h : Chain L top bs) : 1 ≤ top := (conn_le _ _ _ h.to).1
theorem Chain.lay {L : List Int} {top k n m : Int} {bs : List Blk} (h : Chain L top bs) (hs : sizeOf threeCs k n = (m, 0)) (hk : 1 ≤ k ∧ k ≤ 3) (hn : 0 ≤ n ∧ n < 4294967296) (hm : top + m ≤ 500) :
    Chain (putL L top (laid k n m.toNat)) (top + m) (bs ++ [⟨top, k, n, m⟩]) := by
  have h1 := h.top1
  have h2 := sizeOf_ok (cs := threeCs) (k := k) (n := n) (by rw [hs])
  rw [hs] at h2
  simp only at h2
  have hl := h.len
  have hll : (laid k n m.toNat).length = m.toNat := laid_length _ _ _ (by omega)
  have w1 := fun x => put_word (l := L) (m := laid k n m.toNat) (t := top) (by omega) x
  obtain ⟨c1, c2⟩ := conn_le _ _ _ h.to
  have hnew : readOf (putL L top (laid k n m.toNat)) threeCs top = some ⟨top, k, n, m⟩ := read_laid hs (by omega) hn (by omega)
  refine ⟨by rw [putL_length, hl], h.inn.put (allIn_laid _ _ _) _, ?_, hm, fun b hb => ?_, fun b hb y hy => ?_⟩
  · exact conn_snoc bs 1 top ⟨top, k, n, m⟩ h.to rfl h2.1
  · rcases List.mem_append.1 hb with hb | hb
    · have := c2 b hb
      exact ⟨read_keep (h.read b hb).1 (putL_length _ _ _) (by rw [w1, if_neg (by omega)]), (h.read b hb).2⟩
    · simp at hb
      subst hb
      exact ⟨hnew, hk.1⟩
  · obtain ⟨i, hi1, hi2, hy2⟩ := refWords_mem hy
    rcases List.mem_append.1 hb with hb | hb
    · have hc := c2 b hb
      have hr := readOf_some (h.read b hb).1
      have hw := refs_within hr.2.2.2.2.2.1
      rw [w1, if_neg (by omega)] at hy2
      have hy3 : y ∈ refWords L threeCs b := by
        unfold refWords
        refine List.mem_filterMap.2 ⟨i, ?_, hy2⟩
        unfold rowTo
        exact List.mem_map.2 ⟨(i - 1).toNat, by simp; omega, by omega⟩
      rcases h.refs b hb y hy3 with h5 | ⟨c, h5, h6⟩
      · exact .inl h5
      · exact .inr ⟨c, by simp [h5], h6⟩
    · simp at hb
      subst hb
      simp only at hi2 hy2
      have hw := refs_within (cs := threeCs) (k := k) (n := n) (by rw [hs])
      rw [hs] at hw
      simp only at hw
      rw [w1, if_pos (by omega), laid_word (by omega) _ (by omega), if_neg (by omega)] at hy2
      injection hy2 with hy2
      exact .inl hy2.symm
/-- A word within an object is put: what it refers to is among them still. -/
theorem Chain.put {L : List Int} {top : Int} {bs : List Blk} (h : Chain L top bs) {b c : Blk} (hb : b ∈ bs) (hc : c ∈ bs) {x : Int} (hx : b.t < x ∧ x < b.t + b.s) : Chain (putL L x [c.t]) top bs := by
  obtain ⟨c1, c2⟩ := conn_le _ _ _ h.to
  have ha := conn_apart _ _ _ h.to
  have hl := h.len
  have h3 := c2 b hb
  have hlow := h.low
  have w1 := fun z => put_word (l := L) (m := [c.t]) (t := x) (by simp; omega) z
  simp only [List.length_cons, List.length_nil] at w1
  have hne : ∀ d, d ∈ bs → d.t ≠ x := fun d hd => by
    have h4 := c2 d hd
    rcases pair_mem ha d b hd hb with rfl | h5 | h5 <;> omega
  refine ⟨by rw [putL_length, hl], h.inn.put (fun z hz => ?_) _, h.to, h.low, fun d hd => ?_, fun d hd y hy => ?_⟩
  · simp at hz
    subst hz
    have := c2 c hc
    unfold In64
    omega
  · exact ⟨read_keep (h.read d hd).1 (putL_length _ _ _) (by rw [w1, if_neg (by have := hne d hd; omega)]), (h.read d hd).2⟩
  · obtain ⟨i, hi1, hi2, hy2⟩ := refWords_mem hy
    rw [w1] at hy2
    split at hy2
    · right
      rename_i hz
      rw [show (d.t + i - x).toNat = 0 by omega] at hy2
      simp at hy2
      exact ⟨c, hc, hy2.symm⟩
    · refine h.refs d hd y ?_
      have hr := refsOf_range threeCs d.k d.n
      unfold refWords
      refine List.mem_filterMap.2 ⟨i, ?_, hy2⟩
      unfold rowTo
      exact List.mem_map.2 ⟨(i - 1).toNat, by simp; omega, by omega⟩

/-- The filler behind all objects. -/
def tailOf (top : Int) : List Blk := if top < 500 then [⟨top, 0, 499 - top, 500 - top⟩] else []
theorem tailOf_length (top : Int) : (tailOf top).length ≤ 1 := by unfold tailOf; split <;> simp
structure Heaped (L : List Int) (top : Int) (bs : List Blk) : Prop where
  chain : Chain L top bs
  fill : top < 500 → readOf L threeCs top = some ⟨top, 0, 499 - top, 500 - top⟩
theorem Chain.fill {L : List Int} {top : Int} {bs : List Blk} (h : Chain L top bs) : Heaped (fillL L top 500) top bs := by
  obtain ⟨c1, c2⟩ := conn_le _ _ _ h.to
  have hl := h.len
  have w1 := fun x (hx : x < top) => fill_word (l := L) (f := top) (g := 500) x (.inr (.inl hx))
  refine ⟨⟨by rw [fillL_length, hl], h.inn.fill _ _, h.to, h.low, fun b hb => ?_, fun b hb y hy => ?_⟩, fun ht => ?_⟩
  · have := c2 b hb
    exact ⟨read_keep (h.read b hb).1 (fillL_length _ _ _) (w1 _ (by omega)), (h.read b hb).2⟩
  · obtain ⟨i, hi1, hi2, hy2⟩ := refWords_mem hy
    have hc := c2 b hb
    have hr := readOf_some (h.read b hb).1
    have hw := refs_within hr.2.2.2.2.2.1
    rw [w1 _ (by omega)] at hy2
    refine h.refs b hb y ?_
    have hr := refsOf_range threeCs b.k b.n
    unfold refWords
    refine List.mem_filterMap.2 ⟨i, ?_, hy2⟩
    unfold rowTo
    exact List.mem_map.2 ⟨(i - 1).toNat, by simp; omega, by omega⟩
  · have h5 := read_fill (l := L) (cs := threeCs) (f := top) (g := 500) (by omega) (by omega)
    rw [h5, show (500 : Int) - top - 1 = 499 - top by omega]
theorem walk_conn {L : List Int} {tail : List Blk} {g : Int} : ∀ (bs : List Blk) (t top : Int), conn t bs top → (∀ b, b ∈ bs → readOf L threeCs b.t = some b) → top ≤ g → walkOf L threeCs g top = some tail → walkOf L threeCs g t = some (bs ++ tail)
  | [], t, top, h, _, _, hw => by
    have h : t = top := h
    subst h
    exact hw
  | b :: bs, t, top, ⟨h1, h2, h3⟩, hr, hg, hw => by
    have h4 := (conn_le _ _ _ h3).1
    have h5 := hr b (by simp)
    rw [h1] at h5
    rw [walkOf_step (by omega) h5 (by omega), walk_conn bs _ top h3 (fun c hc => hr c (by simp [hc])) hg hw]
    rfl
theorem Heaped.walk {L : List Int} {top : Int} {bs : List Blk} (h : Heaped L top bs) : walkOf L threeCs 500 1 = some (bs ++ tailOf top) := by
  refine walk_conn bs 1 top h.chain.to (fun b hb => (h.chain.read b hb).1) h.chain.low ?_
  unfold tailOf
  split
  · rename_i ht
    exact walk_one (h.fill ht) (by simp only; omega)
  · have := h.chain.low
    exact walkOf_end (by omega)
/-- An address of an object leads to it. -/
theorem Heaped.obj {L : List Int} {top : Int} {bs : List Blk} (h : Heaped L top bs) {b : Blk} (hb : b ∈ bs) : objOf (bs ++ tailOf top) b.t = some b := by
  have hw := walkOf_facts (by omega) h.walk
  exact objOf_mem _ _ hw.apart b (by simp [hb]) (by have := (h.chain.read b hb).2; omega)
theorem Heaped.closed {L : List Int} {top : Int} {bs : List Blk} (h : Heaped L top bs) {rs : List Int} (hr : ∀ r, r ∈ rs → ∃ b, b ∈ bs ∧ r = b.t) {x : Int} (hx : Rch (objOf (bs ++ tailOf top)) (refWords L threeCs) rs x) : ∃ b, b ∈ bs ∧ x = b.t := by
  refine rch_closed (fun x => ∃ b, b ∈ bs ∧ x = b.t) (fun r hr2 _ => hr r hr2) (fun x b hx hb y hy h0 => ?_) hx
  obtain ⟨c, hc, rfl⟩ := hx
  rw [h.obj hc] at hb
  injection hb with hb
  subst hb
  rcases h.chain.refs _ hc y hy with h5 | ⟨d, h5, h6⟩
  · exact absurd h5 h0
  · exact ⟨d, h5, h6⟩
theorem Heaped.found {L : List Int} {top : Int} {bs : List Blk} (h : Heaped L top bs) {rs : List Int} (hr : ∀ r, r ∈ rs → ∃ b, b ∈ bs ∧ r = b.t) : ¬ Lost (objOf (bs ++ tailOf top)) (refWords L threeCs) rs := fun ⟨x, h1, h2⟩ => by
  obtain ⟨b, hb, rfl⟩ := h.closed hr h1
  rw [h.obj hb] at h2
  cases h2
end Go.Proofs.Ytkidcbehjhlnkaa

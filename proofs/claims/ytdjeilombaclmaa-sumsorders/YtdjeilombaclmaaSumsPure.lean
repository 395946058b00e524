/-
  Sums by several workers, without memory: the state ('SS'), a worker's step ('stepS'), what holds at each step ('Inv'), and what is left to do ('left').
-/
import Derived.Test.YtdjeilombaclmaaGangP
namespace Go.Proofs.Ytdjeilombaclmaa
open Go.RowKit
set_option linter.unusedVariables false

/-- Sums of beginnings, as whole numbers. -/
def pre (l : List Int) (i : Nat) : Int := (l.take i).sum
theorem pre_zero (l : List Int) : pre l 0 = 0 := rfl
theorem pre_succ {l : List Int} {i : Nat} {x : Int} (h : l[i]? = some x) : pre l (i + 1) = pre l i + x := by
  unfold pre
  rw [take_snoc h, List.sum_append]
  simp
theorem wrap_add (a b : Int) : wrap64 (wrap64 a + b) = wrap64 (a + b) := by unfold wrap64; omega
theorem wrap_add2 (a b : Int) : wrap64 (wrap64 a + wrap64 b) = wrap64 (a + b) := by unfold wrap64; omega

theorem getD_some {l : List Int} {i : Nat} (h : i < l.length) : l[i]? = some (l.getD i 0) := by simp [List.getD_eq_getElem?_getD, h]
theorem wrap64_range (a : Int) : -9223372036854775808 ≤ wrap64 a ∧ wrap64 a ≤ 9223372036854775807 := by unfold wrap64; omega

/-- What is added up: the values, how many a block has, how many workers. -/
structure SP where
  vals : List Int
  size : Nat
  n : Nat
def SP.len (P : SP) : Nat := P.vals.length
def SP.nb (P : SP) : Nat := (P.len + P.size - 1) / P.size
def SP.fin (P : SP) (b : Nat) : Nat := min (b * P.size + P.size) P.len

/-- A worker: its block, which of the block's values are left. -/
structure SW where
  blk : Nat
  pos : Nat
  lim : Nat
structure SS where
  ws : List Int
  came : Nat
  ph : Nat
  cnt : Nat
  acc : Nat
  wk : List SW
  bl : List Int
  added : Nat
  tot : Int
  ah : List Int

def SS.goes (S : SS) (k : Int) : Bool := decide (k ∈ S.ws.drop S.came)
def SS.ended (P : SP) (S : SS) (k : Int) : Bool := decide (k < 0) || decide ((P.n : Int) ≤ k) || decide (S.ph = 3) || (decide (S.ph = 2) && !S.goes k)
def SS.arrive (S : SS) (k : Int) : SS :=
  if S.came + 1 = S.ws.length then { S with ws := swp S.ws (idxI S.ws k).toNat S.came k, came := 0, ph := S.ph + 1, cnt := 0 }
  else { S with ws := swp S.ws (idxI S.ws k).toNat S.came k, came := S.came + 1 }
def SS.take (P : SP) (S : SS) (k : Nat) : SS :=
  if S.cnt < P.nb then { S with cnt := S.cnt + 1, acc := S.acc + 1, wk := S.wk.set k ⟨S.cnt, S.cnt * P.size, P.fin S.cnt⟩ }
  else { S with cnt := S.cnt + 1, acc := S.acc + 1 }
def SS.took (P : SP) (S : SS) : Bool := decide (S.cnt < P.nb)
def SS.addV (P : SP) (S : SS) (k : Nat) (W : SW) : SS :=
  { S with bl := S.bl.set W.blk (wrap64 (S.bl.getD W.blk 0 + P.vals.getD W.pos 0)), wk := S.wk.set k ⟨W.blk, W.pos + 1, W.lim⟩ }
def SS.addB (S : SS) : SS :=
  { S with bl := S.bl.set S.added S.tot, tot := wrap64 (S.tot + S.bl.getD S.added 0), added := S.added + 1 }
def SS.telV (P : SP) (S : SS) (k : Nat) (W : SW) : SS :=
  { S with ah := S.ah.set W.pos (S.bl.getD W.blk 0), bl := S.bl.set W.blk (wrap64 (S.bl.getD W.blk 0 + P.vals.getD W.pos 0)), wk := S.wk.set k ⟨W.blk, W.pos + 1, W.lim⟩ }
/-- What the phase's step does, and whether there was anything to do. -/
def SS.act (P : SP) (S : SS) (k : Nat) (W : SW) : SS × Bool :=
  if S.ph = 1 then (if k = 0 ∧ S.added < P.nb then (S.addB, true) else (S, false))
  else if W.pos = W.lim then (S.take P k, S.took P)
  else if S.ph = 0 then (S.addV P k W, true) else (S.telV P k W, true)
def SS.work (P : SP) (S : SS) (k : Nat) (W : SW) : SS := if (S.act P k W).2 then (S.act P k W).1 else (S.act P k W).1.arrive k
/-- A worker's step. -/
def SS.step (P : SP) (S : SS) (k : Nat) : SS :=
  if S.ph < 3 ∧ S.goes k = true then S.work P k (S.wk.getD k ⟨0, 0, 0⟩) else S
def SS.fresh (P : SP) : SS := ⟨ids P.n, 0, 0, 0, 0, List.replicate P.n ⟨0, 0, 0⟩, List.replicate P.nb 0, 0, 0, List.replicate P.len 0⟩

section
variable {P : SP} {S : SS}
theorem SP.lt_len (hs : 0 < P.size) {b : Nat} (hb : b < P.nb) : b * P.size < P.len := by
  unfold SP.nb at hb
  have h1 := (Nat.lt_div_iff_mul_lt hs).1 hb
  omega
theorem SP.len_le (hs : 0 < P.size) : P.len ≤ P.nb * P.size := by
  unfold SP.nb
  have h1 := Nat.div_add_mod (P.len + P.size - 1) P.size
  have h2 := Nat.mod_lt (P.len + P.size - 1) hs
  rw [Nat.mul_comm] at h1
  omega
theorem SP.at_most (hs : 0 < P.size) {b : Nat} (hb : P.nb ≤ b) : P.len ≤ b * P.size := Nat.le_trans (SP.len_le hs) (Nat.mul_le_mul_right _ hb)
theorem SP.nb_le (hs : 0 < P.size) : P.nb ≤ P.len := by
  by_cases h : P.nb ≤ P.len
  · exact h
  · have h1 := SP.lt_len hs (b := P.nb - 1) (by omega)
    have h2 : (P.nb - 1) * 1 ≤ (P.nb - 1) * P.size := Nat.mul_le_mul_left _ hs
    omega
theorem SP.fin_gt (hs : 0 < P.size) {b : Nat} (hb : b < P.nb) : b * P.size < P.fin b := by
  have := SP.lt_len hs hb
  unfold SP.fin
  omega
theorem SP.fin_succ (b : Nat) : P.fin b = min ((b + 1) * P.size) P.len := by unfold SP.fin; rw [Nat.add_mul, Nat.one_mul]
/-- A value's block. -/
theorem SP.block_of (hs : 0 < P.size) {i : Nat} (hi : i < P.len) : ∃ b, b < P.nb ∧ b * P.size ≤ i ∧ i < P.fin b := by
  refine ⟨i / P.size, ?_, Nat.div_mul_le_self i P.size, ?_⟩
  · rw [Nat.div_lt_iff_lt_mul hs]
    exact Nat.lt_of_lt_of_le hi (SP.len_le hs)
  · unfold SP.fin
    have h1 := Nat.div_add_mod i P.size
    have h2 := Nat.mod_lt i hs
    rw [Nat.mul_comm] at h1
    omega
end

/-- Work on blocks: how far each block is, who has which. -/
structure Shr (P : SP) (S : SS) (base : Nat → Int) (told : Bool) (pr : Nat → Nat) : Prop where
  busy : ∀ (k : Nat) (W : SW), S.wk[k]? = some W → W.pos = W.lim ∨ (W.pos < W.lim ∧ W.blk < P.nb ∧ W.blk < S.cnt ∧ W.lim = P.fin W.blk ∧ pr W.blk = W.pos)
  uniq : ∀ (k k' : Nat) (W W' : SW), S.wk[k]? = some W → S.wk[k']? = some W' → W.pos < W.lim → W'.pos < W'.lim → W.blk = W'.blk → k = k'
  fresh : ∀ b, b < P.nb → S.cnt ≤ b → pr b = b * P.size
  done : ∀ b, b < P.nb → b < S.cnt → pr b = P.fin b ∨ ∃ (k : Nat) (W : SW), S.wk[k]? = some W ∧ W.pos < W.lim ∧ W.blk = b
  lo : ∀ b, b < P.nb → b * P.size ≤ pr b ∧ pr b ≤ P.fin b
  val : ∀ b, b < P.nb → S.bl[b]? = some (wrap64 (pre P.vals (pr b) - base b))
  tell : told = true → ∀ b, b < P.nb → ∀ i, b * P.size ≤ i → i < pr b → S.ah[i]? = some (wrap64 (pre P.vals i))
  come : 0 < S.came → P.nb ≤ S.cnt
  idle : ∀ (k : Nat) (W : SW), S.wk[k]? = some W → (k : Int) ∈ S.ws.take S.came → W.pos = W.lim

section
variable {P : SP} {S : SS} {base : Nat → Int} {told : Bool} {pr : Nat → Nat}

theorem get_set {α : Type} {l : List α} {k j : Nat} {x y : α} (h : (l.set k x)[j]? = some y) : (j = k ∧ y = x) ∨ (j ≠ k ∧ l[j]? = some y) := by
  rw [List.getElem?_set] at h
  split at h
  · rename_i e
    split at h
    · left; exact ⟨e.symm, by simpa using h.symm⟩
    · cases h
  · rename_i e
    exact .inr ⟨fun e2 => e e2.symm, h⟩
theorem set_get {α : Type} {l : List α} {k : Nat} {x y : α} (h : l[k]? = some y) : (l.set k x)[k]? = some x := by
  rw [List.getElem?_set, if_pos rfl, if_pos (List.getElem?_eq_some_iff.1 h).1]
theorem set_ne {α : Type} {l : List α} {k j : Nat} {x : α} (h : k ≠ j) : (l.set k x)[j]? = l[j]? := by
  rw [List.getElem?_set, if_neg h]

/-- A value is added (and, in the last phase, its sum ahead told). -/
theorem Shr.one (hs : 0 < P.size) (h : Shr P S base told pr) {k : Nat} {W : SW} (hk : S.wk[k]? = some W) (hne : W.pos ≠ W.lim) {ah' : List Int} (hah : told = true → ah' = S.ah.set W.pos (S.bl.getD W.blk 0)) (hlen : S.ah.length = P.len) (hb0 : told = true → ∀ b, base b = 0) :
    Shr P { S with ah := ah', bl := S.bl.set W.blk (wrap64 (S.bl.getD W.blk 0 + P.vals.getD W.pos 0)), wk := S.wk.set k ⟨W.blk, W.pos + 1, W.lim⟩ } base told (fun b => if b = W.blk then W.pos + 1 else pr b) := by
  obtain ⟨hlt, hnb, hcnt, hlim, hpr⟩ := (h.busy k W hk).resolve_left hne
  have hfl : P.fin W.blk ≤ P.len := by unfold SP.fin; omega
  have hpl : W.pos < P.vals.length := by have : P.len = P.vals.length := rfl; omega
  have hv : P.vals[W.pos]? = some (P.vals.getD W.pos 0) := by simp [List.getD_eq_getElem?_getD, hpl]
  have hbl := h.val W.blk hnb
  have hbd : S.bl.getD W.blk 0 = wrap64 (pre P.vals W.pos - base W.blk) := by rw [List.getD_eq_getElem?_getD, hbl, hpr]; rfl
  refine ⟨?_, ?_, ?_, ?_, ?_, ?_, ?_, h.come, ?_⟩
  · intro j V hj
    rcases get_set hj with ⟨rfl, rfl⟩ | ⟨hjk, hj⟩
    · by_cases he : W.pos + 1 = W.lim
      · exact .inl he
      · exact .inr ⟨by simp only; omega, hnb, hcnt, hlim, by simp⟩
    · rcases h.busy j V hj with h1 | ⟨h1, h2, h3, h4, h5⟩
      · exact .inl h1
      · refine .inr ⟨h1, h2, h3, h4, ?_⟩
        have : V.blk ≠ W.blk := fun e => hjk (h.uniq j k V W hj hk h1 hlt e)
        simp [this, h5]
  · intro j j' V V' hj hj' hV hV' he
    rcases get_set hj with ⟨e1, rfl⟩ | ⟨hjk, hj2⟩
    · rcases get_set hj' with ⟨e2, rfl⟩ | ⟨hjk', hj3⟩
      · omega
      · exact e1.trans (h.uniq _ _ _ _ hk hj3 hlt hV' he)
    · rcases get_set hj' with ⟨e2, rfl⟩ | ⟨hjk', hj3⟩
      · exact (h.uniq _ _ _ _ hj2 hk hV hlt he).trans e2.symm
      · exact h.uniq _ _ _ _ hj2 hj3 hV hV' he
  · intro b hb hc
    have : b ≠ W.blk := fun e => by subst e; exact absurd hcnt (by simpa using hc)
    simp [this]
    exact h.fresh b hb hc
  · intro b hb hc
    by_cases e : b = W.blk
    · subst e
      simp
      by_cases he : W.pos + 1 = W.lim
      · left; omega
      · right
        exact ⟨k, _, set_get hk, by simp only; omega, rfl⟩
    · simp [e]
      rcases h.done b hb hc with h1 | ⟨j, V, hj, hV, hb2⟩
      · exact .inl h1
      · right
        have hjk : k ≠ j := fun e2 => by subst e2; rw [hk] at hj; cases hj; exact e hb2.symm
        exact ⟨j, V, by rw [set_ne hjk]; exact hj, hV, hb2⟩
  · intro b hb
    by_cases e : b = W.blk
    · subst e
      have := h.lo W.blk hb
      simp
      omega
    · simp [e]
      exact h.lo b hb
  · intro b hb
    by_cases e : b = W.blk
    · subst e
      simp only [if_true]
      rw [set_get hbl, hbd, wrap_add, pre_succ hv]
      congr 2
      omega
    · simp only [if_neg e]
      rw [set_ne (Ne.symm e)]
      exact h.val b hb
  · intro ht b hb i hi1 hi2
    rw [hah ht]
    by_cases e : i = W.pos
    · subst e
      have hx : (S.ah.set W.pos (S.bl.getD W.blk 0))[W.pos]? = some (S.bl.getD W.blk 0) := by
        rw [List.getElem?_set, if_pos rfl, if_pos (by omega)]
      rw [hx, hbd, hb0 ht, Int.sub_zero]
    · rw [set_ne (Ne.symm e)]
      split at hi2
      · rename_i e2
        subst e2
        exact h.tell ht W.blk hb i hi1 (by omega)
      · exact h.tell ht b hb i hi1 hi2
  · intro j V hj hm
    rcases get_set hj with ⟨rfl, rfl⟩ | ⟨hjk, hj⟩
    · exact absurd (h.idle _ W hk hm) hne
    · exact h.idle j V hj hm

/-- A block is taken. -/
theorem Shr.took (hs : 0 < P.size) (h : Shr P S base told pr) {k : Nat} {W : SW} (hk : S.wk[k]? = some W) (hne : W.pos = W.lim) (hc : S.cnt < P.nb) (hng : (k : Int) ∉ S.ws.take S.came) :
    Shr P { S with cnt := S.cnt + 1, acc := S.acc + 1, wk := S.wk.set k ⟨S.cnt, S.cnt * P.size, P.fin S.cnt⟩ } base told pr := by
  have hgt := SP.fin_gt hs hc
  refine ⟨?_, ?_, ?_, ?_, h.lo, h.val, h.tell, ?_, ?_⟩
  · intro j V hj
    rcases get_set hj with ⟨rfl, rfl⟩ | ⟨hjk, hj⟩
    · exact .inr ⟨hgt, hc, by simp, rfl, h.fresh _ hc (Nat.le_refl _)⟩
    · rcases h.busy j V hj with h1 | ⟨h1, h2, h3, h4, h5⟩
      · exact .inl h1
      · exact .inr ⟨h1, h2, by simp only; omega, h4, h5⟩
  · intro j j' V V' hj hj' hV hV' he
    rcases get_set hj with ⟨e1, rfl⟩ | ⟨hjk, hj2⟩
    · rcases get_set hj' with ⟨e2, rfl⟩ | ⟨hjk', hj3⟩
      · omega
      · rcases h.busy _ _ hj3 with h1 | ⟨_, _, h3, _⟩
        · omega
        · simp only at he; omega
    · rcases get_set hj' with ⟨e2, rfl⟩ | ⟨hjk', hj3⟩
      · rcases h.busy _ _ hj2 with h1 | ⟨_, _, h3, _⟩
        · omega
        · simp only at he; omega
      · exact h.uniq _ _ _ _ hj2 hj3 hV hV' he
  · intro b hb hc2
    exact h.fresh b hb (by simp only at hc2; omega)
  · intro b hb hc2
    simp only at hc2
    by_cases e : b = S.cnt
    · subst e
      right
      exact ⟨k, _, set_get hk, hgt, rfl⟩
    · rcases h.done b hb (by omega) with h1 | ⟨j, V, hj, hV, hb2⟩
      · exact .inl h1
      · right
        have hjk : k ≠ j := fun e2 => by subst e2; rw [hk] at hj; cases hj; omega
        exact ⟨j, V, by simp only; rw [set_ne hjk]; exact hj, hV, hb2⟩
  · intro h0
    have := h.come h0
    omega
  · intro j V hj hm
    rcases get_set hj with ⟨rfl, rfl⟩ | ⟨hjk, hj⟩
    · exact absurd hm hng
    · exact h.idle j V hj hm

/-- Nothing is left to take, and the worker arrives. -/
theorem Shr.gone (h : Shr P S base told pr) {k : Nat} {W : SW} (hk : S.wk[k]? = some W) (hne : W.pos = W.lim) (hc : P.nb ≤ S.cnt) {ws' : List Int} {c' a' : Nat} (hw : ∀ y, y ∈ ws'.take c' → y = (k : Int) ∨ y ∈ S.ws.take S.came) :
    Shr P { S with cnt := S.cnt + 1, acc := a', ws := ws', came := c' } base told pr := by
  refine ⟨?_, h.uniq, ?_, ?_, h.lo, h.val, h.tell, ?_, ?_⟩
  · intro j V hj
    rcases h.busy j V hj with h1 | ⟨h1, h2, h3, h4, h5⟩
    · exact .inl h1
    · exact .inr ⟨h1, h2, by simp only; omega, h4, h5⟩
  · intro b hb hc2
    exact h.fresh b hb (by simp only at hc2; omega)
  · intro b hb hc2
    exact h.done b hb (by omega)
  · intro _
    simp only
    omega
  · intro j V hj hm
    rcases hw _ hm with e | hm
    · have e2 : j = k := Int.ofNat.inj e
      subst e2
      simp only at hj
      rw [hk] at hj
      cases hj
      exact hne
    · exact h.idle j V hj hm

/-- Where all have arrived, all blocks are done. -/
theorem Shr.all (h : Shr P S base told pr) (hid : ∀ (k : Nat) (W : SW), S.wk[k]? = some W → W.pos = W.lim) (hc : P.nb ≤ S.cnt) {b : Nat} (hb : b < P.nb) : pr b = P.fin b := by
  rcases h.done b hb (by omega) with h1 | ⟨j, V, hj, hV, _⟩
  · exact h1
  · have := hid j V hj; omega
end
end Go.Proofs.Ytdjeilombaclmaa

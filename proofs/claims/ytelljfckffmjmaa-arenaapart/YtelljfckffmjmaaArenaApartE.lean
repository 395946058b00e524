/-
  ArenaApart, without memory: all asks come to an end; what is read at the end.
-/
import Derived.Test.YtelljfckffmjmaaArenaApartP
import Derived.Test.YtelljfckffmjmaaArenaBlk
namespace Go.Proofs.Ytelljfckffmjmaa
open Go.RowKit
set_option linter.unusedVariables false

/-- How many steps an ask has left, if nobody else is at work. -/
def vOf (tp : Nat) (k : AkS) : Nat :=
  match k.at_ with
  | .begin => 3
  | .readTop => 2
  | .swapTop => if k.top = (tp : Int) then 1 else 3
theorem vOf_range (tp : Nat) (k : AkS) : 1 ≤ vOf tp k ∧ vOf tp k ≤ 3 := by
  unfold vOf
  split
  · omega
  · omega
  · split <;> omega

theorem v_step {A : AC} {o : Nat} {l bl : List Int} {tp n : Nat} {k : AkS} {s : Int} (ht : topOf A l = (tp : Int)) (hk : k.done = false) (hn : k.size = n ∧ 1 ≤ n ∧ n ≤ 40) (hd : (stepA A o ⟨l, bl, k, s⟩).k.done = false) : vOf tp (stepA A o ⟨l, bl, k, s⟩).k + 1 ≤ vOf tp k := by
  obtain ⟨kat, kd, ks, kt, kw, kp, ke⟩ := k
  have e : kd = false := hk
  subst e
  have e2 : ks = (n : Int) := hn.1
  subst e2
  have rd : ∀ kat', (readA A l ⟨kat', false, n, kt, kw, kp, ke⟩).done = false → vOf tp (readA A l ⟨kat', false, n, kt, kw, kp, ke⟩) = 1 := by
    intro kat' h
    by_cases hz : aboveOf A (topOf A l) < (n : Int)
    · rw [readA_full A l _ hz] at h
      cases h
    · rw [readA_ok A l _ hz]
      unfold vOf
      simp only
      rw [if_pos ht]
  cases kat with
  | readTop =>
    have h1 := rd .readTop hd
    show vOf tp (readA A l ⟨.readTop, false, n, kt, kw, kp, ke⟩) + 1 ≤ 2
    omega
  | swapTop =>
    by_cases hx : topOf A l = kt
    · rw [stepA_hit A o l bl n kt kw kp ke s hx] at hd
      cases hd
    · rw [stepA_miss A o l bl n kt kw kp ke s hx]
      unfold vOf
      simp only
      rw [if_neg (fun e => hx (by rw [ht, e]))]
      omega
  | begin =>
    have h1 : ¬ ((n : Int) < 1 ∨ 65536 < (n : Int)) := by omega
    by_cases h2 : (n : Int) ≤ bl.getD (o + 1) 0 - bl.getD o 0
    · rw [stepA_take A o l bl n kt kw kp ke s h1 h2] at hd
      cases hd
    · by_cases h3 : bl.getD o 0 < bl.getD (o + 1) 0 ∧ lg A (n : Int) = false
      · rw [stepA_fill A o l bl n kt kw kp ke s h1 h2 h3]
        exact Nat.le_refl _
      · rw [stepA_read A o l bl n kt kw kp ke s h1 h2 h3] at hd ⊢
        have h4 := rd .begin hd
        show vOf tp (readA A l ⟨.begin, false, n, kt, kw, kp, ke⟩) + 1 ≤ 3
        omega

def phT (b : Option Nat) (tp : Nat) (k : AkS) : Nat := if b.isSome then 6 + vOf tp k else 0
def phi (xs : Nat → Option Nat) (tp : Nat) (K : Nat → AkS) : Nat := phT (xs 0) tp (K 0) + phT (xs 1) tp (K 1) + phT (xs 2) tp (K 2) + phT (xs 3) tp (K 3)
theorem phT_le (b : Option Nat) (tp : Nat) (k : AkS) : phT b tp k ≤ 9 := by
  unfold phT
  have := vOf_range tp k
  split <;> omega
theorem phi_le (xs : Nat → Option Nat) (tp : Nat) (K : Nat → AkS) : phi xs tp K ≤ 36 := by
  unfold phi
  have := phT_le (xs 0) tp (K 0)
  have := phT_le (xs 1) tp (K 1)
  have := phT_le (xs 2) tp (K 2)
  have := phT_le (xs 3) tp (K 3)
  omega
theorem phT_move (b : Option Nat) (tp tp' : Nat) (k : AkS) : phT b tp' k ≤ phT b tp k + 2 := by
  unfold phT
  have := vOf_range tp k
  have := vOf_range tp' k
  split <;> omega
def updF {α : Type} (xs : Nat → α) (i : Nat) (x : α) : Nat → α := fun k => if k = i then x else xs k

theorem phi_on {xs : Nat → Option Nat} {tp : Nat} {K : Nat → AkS} {w : Nat} {k' : AkS} (hw : w < 4) (hx : xs w ≠ none) (hv : vOf tp k' + 1 ≤ vOf tp (K w)) : phi xs tp (updF K w k') + 1 ≤ phi xs tp K := by
  have hs : (xs w).isSome = true := by cases h : xs w with
    | none => exact absurd h hx
    | some b => rfl
  have h1 : phT (xs w) tp k' + 1 ≤ phT (xs w) tp (K w) := by unfold phT; rw [if_pos hs, if_pos hs]; omega
  have h4 : w = 0 ∨ w = 1 ∨ w = 2 ∨ w = 3 := by omega
  unfold phi updF
  rcases h4 with rfl | rfl | rfl | rfl <;> simp <;> omega
theorem phi_end {xs : Nat → Option Nat} {tp tp' : Nat} {K : Nat → AkS} {w : Nat} (k' : AkS) (hw : w < 4) (hx : xs w ≠ none) : phi (updF xs w none) tp' (updF K w k') + 1 ≤ phi xs tp K := by
  have hs : (xs w).isSome = true := by cases h : xs w with
    | none => exact absurd h hx
    | some b => rfl
  have h1 : 7 ≤ phT (xs w) tp (K w) := by unfold phT; rw [if_pos hs]; have := vOf_range tp (K w); omega
  have h0 : phT none tp' k' = 0 := rfl
  have m0 := phT_move (xs 0) tp tp' (K 0)
  have m1 := phT_move (xs 1) tp tp' (K 1)
  have m2 := phT_move (xs 2) tp tp' (K 2)
  have m3 := phT_move (xs 3) tp tp' (K 3)
  have h4 : w = 0 ∨ w = 1 ∨ w = 2 ∨ w = 3 := by omega
  unfold phi updF
  rcases h4 with rfl | rfl | rfl | rfl <;> simp <;> omega

def cntw (len i w : Nat) : Nat := (i + 3 - w) / 4 - (len + 3 - w) / 4
def Jv (len i : Nat) (xs : Nat → Option Nat) (ph : Nat) : Prop := ∀ w, w < 4 → xs w ≠ none → ph + cntw len i w ≤ 36
theorem J_next {len i w0 : Nat} {xs xs' : Nat → Option Nat} {ph ph' : Nat} (hJ : Jv len i xs ph) (h36 : ph' ≤ 36)
    (h : i < len ∨ (w0 = i % 4 ∧ (∀ w, w ≠ w0 → xs' w ≠ none → xs w ≠ none) ∧ ((xs' w0 = none ∧ ph' ≤ ph) ∨ (xs w0 ≠ none ∧ ph' + 1 ≤ ph)))) : Jv len (i + 1) xs' ph' := by
  intro w hw hx
  rcases h with h | ⟨h1, h2, h3⟩
  · have : cntw len (i + 1) w = 0 := by unfold cntw; omega
    omega
  · by_cases e : w = w0
    · subst e
      rcases h3 with ⟨h4, _⟩ | ⟨h4, h5⟩
      · exact absurd h4 hx
      · have := hJ w hw h4
        have h6 : cntw len (i + 1) w ≤ cntw len i w + 1 := by unfold cntw; omega
        omega
    · have := hJ w hw (h2 w e hx)
      have h6 : cntw len (i + 1) w = cntw len i w := by unfold cntw; omega
      rcases h3 with ⟨_, h5⟩ | ⟨_, h5⟩ <;> omega
theorem J_end {len : Nat} {xs : Nat → Option Nat} {ph : Nat} (h : Jv len (len + 400) xs ph) : ∀ w, w < 4 → xs w = none := by
  intro w hw
  by_cases hx : xs w = none
  · exact hx
  · have := h w hw hx
    have h6 : cntw len (len + 400) w = 100 := by unfold cntw; omega
    omega

/-- A block that the law's last loop may meet. -/
structure GoodB (ow : Nat → Nat) (b : Blk) : Prop where
  r : 1 ≤ b.t ∧ 1 ≤ b.s ∧ b.t + b.s ≤ 401
  o : b.k = 1 → ow b.t.toNat ≠ 0 ∧ ow (b.t + b.s - 1).toNat = ow b.t.toNat
  f : b.k ≠ 1 → ow b.t.toNat = 0
def cnt1 : List Blk → Nat
  | [] => 0
  | b :: r => (if b.k = 1 then 1 else 0) + cnt1 r

theorem cnt1_app (a c : List Blk) : cnt1 (a ++ c) = cnt1 a + cnt1 c := by
  induction a with
  | nil => simp [cnt1]
  | cons b r ih => simp only [List.cons_append, cnt1, ih]; omega
theorem cnt1_take (bs : List Blk) (k : Nat) (b : Blk) (h : bs[k]? = some b) : cnt1 (bs.take (k + 1)) = cnt1 (bs.take k) + if b.k = 1 then 1 else 0 := by
  obtain ⟨h1, h2⟩ := List.getElem?_eq_some_iff.1 h
  rw [List.take_succ_eq_append_getElem h1, h2, cnt1_app]
  simp [cnt1]

section
variable {A : AC} {l bl : List Int} {tp : Nat} {F G : Nat → Nat} {ow : Nat → Nat} {made : Nat} {nx : Nat → Nat} {kd : Nat → Kd}
theorem objs_skip (nx : Nat → Nat) (kd : Nat → Kd) (p m : Nat) (h : ∀ q, p ≤ q → q < p + m → nx q = 0) : objs nx kd (p + m) = objs nx kd p := by
  induction m with
  | zero => rfl
  | succ m ih =>
    show objs nx kd (p + m) + _ = _
    rw [ih (fun q h1 h2 => h q h1 (by omega)), if_neg (fun hh => by have h1 := h (p + m) (by omega) (by omega); have h2 := hh.1; rw [show p.add m = p + m from rfl, h1] at h2; omega)]
    rfl

theorem Tl.walk (h : Tl A l bl tp F G ow made nx kd) (hno : ∀ w, w < 4 → ¬ F w < G w) : ∀ (m p : Nat), tp - p ≤ m → (p = tp ∨ 0 < nx p) → ∃ bs, walkOf l [⟨0, 0, 2⟩] tp p = some bs ∧ (∀ b, b ∈ bs → GoodB ow b) ∧ objs nx kd p + cnt1 bs = made ∧ bs.length + p ≤ tp := by
  have htil := h.til
  have htop := h.top
  have hend : objs nx kd tp = made := by
    rw [← h.cnt]
    have := objs_skip nx kd tp (401 - tp) (fun q h1 h2 => by
      by_cases hq : 0 < nx q
      · have := (h.seg q hq).2.1; omega
      · omega)
    rw [show tp + (401 - tp) = 401 by omega] at this
    exact this.symm
  intro m
  induction m with
  | zero =>
    intro p hm hp
    have : p = tp := by
      rcases hp with hp | hp
      · exact hp
      · have := (h.seg p hp).2.1; omega
    subst this
    exact ⟨[], walkOf_end (by omega), fun b hb => (by cases hb), (by unfold cnt1; rw [Nat.add_zero]; exact hend), by simp⟩
  | succ m ih =>
    intro p hm hp
    by_cases e : p = tp
    · subst e
      exact ⟨[], walkOf_end (by omega), fun b hb => (by cases hb), (by unfold cnt1; rw [Nat.add_zero]; exact hend), by simp⟩
    · have hp0 : 0 < nx p := by rcases hp with hp | hp; exact absurd hp e; exact hp
      obtain ⟨s1, s2, s3, s4⟩ := h.seg p hp0
      obtain ⟨bs, hb1, hb2, hb3, hb5⟩ := ih (p + nx p) (by omega) s3
      have hsk : objs nx kd (p + nx p) = objs nx kd p + if kd p = .obj then 1 else 0 := by
        have h1 : objs nx kd (p + 1) = objs nx kd p + if 0 < nx p ∧ kd p = .obj then 1 else 0 := rfl
        have h2 := objs_skip nx kd (p + 1) (nx p - 1) (fun q h1 h2 => s4 q (by omega) (by omega))
        rw [show p + 1 + (nx p - 1) = p + nx p by omega] at h2
        rw [h2, h1]
        by_cases c : kd p = .obj
        · rw [if_pos ⟨hp0, c⟩, if_pos c]
        · rw [if_neg (fun hh => c hh.2), if_neg c]
      have hcast : (p : Int) + (nx p : Int) = ((p + nx p : Nat) : Int) := by omega
      have wd : ∀ x, l[p]? = some x → wordAt l (p : Int) = some x := fun x hx => by unfold wordAt; rw [if_pos (by omega)]; simpa using hx
      cases hk : kd p with
      | obj =>
        obtain ⟨g1, g2, g3, g4⟩ := h.obj p hp0 hk
        have hr : readOf l [⟨0, 0, 2⟩] (p : Int) = some ⟨p, 1, (nx p : Int) - 1, nx p⟩ := read_head (by rw [size_array _ (by omega)]; congr 1; omega) (by omega) (by omega) (wd _ g1) (by have := h.len; omega)
        refine ⟨⟨p, 1, (nx p : Int) - 1, nx p⟩ :: bs, ?_, ?_, ?_, by simp; omega⟩
        · rw [walkOf_step (by omega) hr (by simp; omega)]
          simp only
          rw [hcast, hb1]
          rfl
        · intro b hb
          rcases List.mem_cons.1 hb with rfl | hb
          · refine ⟨⟨by simp; omega, by simp; omega, by simp; omega⟩, fun _ => ?_, fun hh => absurd rfl hh⟩
            simp only [Int.toNat_natCast]
            rw [show ((p : Int) + (nx p : Int) - 1).toNat = p + nx p - 1 by omega]
            exact ⟨g3, g4⟩
          · exact hb2 b hb
        · rw [hsk, hk] at hb3
          simp only [if_true] at hb3
          unfold cnt1
          simp only [if_true]
          omega
      | fil =>
        obtain ⟨g1, g2⟩ := h.fil p hp0 hk
        have hr : readOf l [⟨0, 0, 2⟩] (p : Int) = some ⟨p, 0, (nx p : Int) - 1, nx p⟩ := read_head (by rw [size_filler _ _ (by omega)]; congr 1; omega) (by omega) (by omega) (wd _ g1) (by have := h.len; omega)
        refine ⟨⟨p, 0, (nx p : Int) - 1, nx p⟩ :: bs, ?_, ?_, ?_, by simp; omega⟩
        · rw [walkOf_step (by omega) hr (by simp; omega)]
          simp only
          rw [hcast, hb1]
          rfl
        · intro b hb
          rcases List.mem_cons.1 hb with rfl | hb
          · refine ⟨⟨by simp; omega, by simp; omega, by simp; omega⟩, fun hh => by simp at hh, fun _ => ?_⟩
            simp only [Int.toNat_natCast]
            exact g2
          · exact hb2 b hb
        · rw [hsk, hk] at hb3
          simp at hb3
          unfold cnt1
          simp
          omega
      | buf w =>
        obtain ⟨g1, g2, g3, g4⟩ := h.buf p w hp0 hk
        exact absurd (by rw [g2, g3]; omega) (hno w g1)
end
end Go.Proofs.Ytelljfckffmjmaa

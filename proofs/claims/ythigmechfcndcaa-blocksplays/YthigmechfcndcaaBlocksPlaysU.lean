/-
  Both sides' Read, Refs, Walk and Reach, told by the same pure answers (BlocksPlays).
-/
import Derived.Test.YthigmechfcndcaaBlocksReachD
import Derived.Test.YthigmechfcndcaaBlocksDoesAny
import Derived.Test.YthigmechfcndcaaBlocksRefsW
namespace Go.Proofs.Ythigmechfcndcaa
open Go.RowKit
set_option linter.unusedVariables false

def readB (l : List Int) (cs : List Cls) (t : Int) : Blk := (readOf l cs t).getD Blk.zero
def readN (l : List Int) (cs : List Cls) (t : Int) : Int := if (readOf l cs t).isSome then 0 else readE l cs t
def Blk.agg (b : Blk) : Value := .agg #[.int .i64 b.t, .int .i64 b.k, .int .i64 b.n, .int .i64 b.s]

theorem bread_all (v : Value) (l : List Int) (ao : Option Addr) (len cap : Nat) (cs : List Cls) (t : Int) (w : World) (hl : l.length ≤ 65536) (hv : AnyMem w v l) (hc : CRd w ao len cs) (ht : In64 t) :
    Calls Try.prog 8 #[v, .slice ao len cap, .int .i64 t] w fun e w' => e = .returned (.tuple #[(readB l cs t).agg, .int .i64 (readN l cs t)]) ∧ Turned [] w w' := by
  unfold readB readN
  cases h : readOf l cs t with
  | none => exact read_none v l ao len cap cs t w hl hv hc ht h
  | some b => exact read_some v l ao len cap cs t b w hl hv hc h
theorem rread_all (d : Nat) (l : List Int) (ao : Option Addr) (len cap : Nat) (cs : List Cls) (t : Int) (w : World) (hl : l.length ≤ 65536) (hd : Doc w d l) (hc : CRd w ao len cs) :
    Calls Try.prog 9 #[.slice (some ⟨d, 0, none⟩) l.length l.length, .slice ao len cap, .int .i64 t] w fun e w' => e = .returned (.tuple #[(readB l cs t).agg, .int .i64 (readN l cs t)]) ∧ Turned [] w w' := by
  unfold readB readN
  cases h : readOf l cs t with
  | none => exact rread_none d l ao len cap cs t w hl hd hc h
  | some b => exact rread_some d l ao len cap cs t b w hl hd hc h

theorem readB_facts (l : List Int) (cs : List Cls) (t : Int) (hl : l.length ≤ 65536) (h0 : 0 < l.length) : (0 ≤ (readB l cs t).t ∧ (readB l cs t).t < l.length) ∧ In64 (readB l cs t).n := by
  unfold readB
  cases h : readOf l cs t with
  | none => exact ⟨by simp [Blk.zero]; omega, by simp [Blk.zero, In64]⟩
  | some b =>
    have h1 := readOf_some h
    obtain ⟨x, _, _, _, hx⟩ := h1.2.2.2.2.2.2.2
    refine ⟨by simp; omega, ?_⟩
    simp
    rw [hx]
    exact part_in64 x

theorem brefs_all (p q : Nat) (l : List Int) (ao : Option Addr) (len cap : Nat) (cs : List Cls) (b : Blk) (w : World) (s : Int) (hl : l.length ≤ 65536) (hi : AllIn l) (hb : 0 ≤ b.t ∧ b.t < l.length) (hn : In64 b.n) (hm : Mem w p q l s) (hc : CRd w ao len cs) :
    Calls Try.prog 10 #[.pointer (some ⟨p, 0, none⟩), .slice ao len cap, b.agg] w fun e w' => ∃ v', e = .returned v' ∧ w'.ownsRow w.heap.size 2 1 v' (refWords l cs b).length ((refWords l cs b).map (Value.int .i64)) ∧ Turned [] w w' :=
  brefs_any _ l ao len cap cs b w hl hi (by omega) hn (.inr ⟨p, q, s, rfl, hm⟩) hc
theorem rrefs_all (d : Nat) (l : List Int) (ao : Option Addr) (len cap : Nat) (cs : List Cls) (b : Blk) (w : World) (hl : l.length ≤ 65536) (hi : AllIn l) (hb : 0 ≤ b.t ∧ b.t < l.length) (hn : In64 b.n) (hd : Doc w d l) (hc : CRd w ao len cs) :
    Calls Try.prog 11 #[.slice (some ⟨d, 0, none⟩) l.length l.length, .slice ao len cap, b.agg] w fun e w' => ∃ v', e = .returned v' ∧ w'.ownsRow w.heap.size 2 1 v' (refWords l cs b).length ((refWords l cs b).map (Value.int .i64)) ∧ Turned [] w w' := by
  obtain ⟨tn, htn⟩ := Int.eq_ofNat_of_zero_le hb.1
  have h1 := rrefs4_any (some ⟨d, 0, none⟩) l.length l ao len cap cs tn b.k b.n b.s w hl (by omega) hn ⟨rfl, by omega, fun j y hy => ⟨d, 0, rfl, by rw [Nat.zero_add]; exact hd.word hy⟩, hi⟩ hc
  have e : (⟨(tn : Int), b.k, b.n, b.s⟩ : Blk) = b := by rw [← htn]
  rw [e, ← htn] at h1
  exact h1

/-- What a walk tells. -/
def walkB (l : List Int) (cs : List Cls) (f g : Int) : List Blk := if 0 ≤ f ∧ f ≤ g ∧ g ≤ l.length then (walkOf l cs g f).getD [] else []
def walkE (l : List Int) (cs : List Cls) (f g : Int) : Int := if 0 ≤ f ∧ f ≤ g ∧ g ≤ l.length then (if (walkOf l cs g f).isNone then 13 else 0) else 10
theorem bwalk_all (v : Value) (l : List Int) (ao : Option Addr) (len cap : Nat) (cs : List Cls) (f g : Int) (w : World) (hl : l.length ≤ 65536) (hv : AnyMem w v l) (hc : CRd w ao len cs) :
    Calls Try.prog 12 #[v, .slice ao len cap, .int .i64 f, .int .i64 g] w fun e w' => ∃ v', e = .returned (.tuple #[v', .int .i64 (walkE l cs f g)]) ∧ w'.ownsRow w.heap.size 38 4 v' (walkB l cs f g).length (flat (walkB l cs f g)) ∧ Turned [] w w' := by
  unfold walkE walkB
  by_cases hw : 0 ≤ f ∧ f ≤ g ∧ g ≤ l.length
  · simp only [if_pos hw]
    exact walk_in v l ao len cap cs f g w hl hv hc hw
  · simp only [if_neg hw]
    refine (walk_out v l ao len cap f g w hv hw).mono ?_
    rintro e w' ⟨rfl, rfl⟩
    exact ⟨_, rfl, World.ownsRow_nil _ _ _ _, Turned.refl _ _⟩
theorem rwalk_all (d : Nat) (l : List Int) (ao : Option Addr) (len cap : Nat) (cs : List Cls) (f g : Int) (w : World) (hl : l.length ≤ 65536) (hd : Doc w d l) (hc : CRd w ao len cs) :
    Calls Try.prog 13 #[.slice (some ⟨d, 0, none⟩) l.length l.length, .slice ao len cap, .int .i64 f, .int .i64 g] w fun e w' => ∃ v', e = .returned (.tuple #[v', .int .i64 (walkE l cs f g)]) ∧ w'.ownsRow w.heap.size 38 4 v' (walkB l cs f g).length (flat (walkB l cs f g)) ∧ Turned [] w w' := by
  unfold walkE walkB
  by_cases hw : 0 ≤ f ∧ f ≤ g ∧ g ≤ l.length
  · simp only [if_pos hw]
    exact rwalk_in d l ao len cap cs f g w hl hd hc hw
  · simp only [if_neg hw]
    refine (rwalk_out d l ao len cap f g w hw).mono ?_
    rintro e w' ⟨rfl, rfl⟩
    exact ⟨_, rfl, World.ownsRow_nil _ _ _ _, Turned.refl _ _⟩

theorem refs_few {l : List Int} {cs : List Cls} {b : Blk} {t : Int} (h : readOf l cs t = some b) : ((refWords l cs b).length : Int) ≤ b.s := by
  have h1 := readOf_some h
  have h2 : ((refWords l cs b).length : Int) ≤ max (refsOf cs b.k b.n) 0 := by
    unfold refWords
    have h3 := List.length_filterMap_le (fun i => wordAt l (b.t + i)) (rowTo (refsOf cs b.k b.n).toNat)
    rw [rowTo_length] at h3
    omega
  have h4 := h1.2.2.2.2.2.1
  rw [h1.2.2.2.2.2.2.1]
  unfold refsOf at h2
  unfold sizeOf told at *
  split at h4
  · simp at h4
  · rename_i c hc
    split at h4
    · rename_i hn
      have h5 := clsAt_few hc hn
      simp only [hc, if_pos hn, gSize, gRefs] at h2 ⊢
      omega
    · simp at h4
theorem left_some (gg : Blk → List Int) (g : Int) (bs : List Blk) : ∀ (f : Int) (R : List Bool), f ≤ g → (∀ b, b ∈ bs → f ≤ b.t ∧ b.t + b.s ≤ g ∧ ((gg b).length : Int) ≤ b.s) → bs.Pairwise (fun a b => a.t + a.s ≤ b.t) → (leftOf gg bs R : Int) ≤ g - f := by
  induction bs with
  | nil => intro f R hf _ _; simp [leftOf]; omega
  | cons b bs ih =>
    intro f R hf h hp
    cases R with
    | nil => simp [leftOf]; omega
    | cons r R =>
      obtain ⟨h1, h2⟩ := List.pairwise_cons.1 hp
      have hb := h b (by simp)
      have h3 := ih (b.t + b.s) R (by omega) (fun c hc => ⟨h1 c hc, (h c (by simp [hc])).2⟩) h2
      simp only [leftOf]
      split <;> (simp; omega)
theorem left_walked {l : List Int} {cs : List Cls} {f g : Int} {bs : List Blk} (h : Walked l cs f g bs) (hf : f ≤ g) (R : List Bool) : (leftOf (refWords l cs) bs R : Int) ≤ g - f :=
  left_some _ g bs f R hf (fun b hb => ⟨(h.each b hb).1, (h.each b hb).2.1, refs_few (h.each b hb).2.2⟩) h.rise

/-- What reaching tells. -/
def ReachT (l : List Int) (cs : List Cls) (f g : Int) (rs ts : List Int) (e : Int) : Prop :=
  if 0 ≤ f ∧ f ≤ g ∧ g ≤ l.length then
    match walkOf l cs g f with
    | none => ts = [] ∧ e = 13
    | some bs => (ts = [] ∧ e = 13 ∧ Lost (objOf bs) (refWords l cs) rs) ∨ (e = 0 ∧ ¬ Lost (objOf bs) (refWords l cs) rs ∧ ∃ R, (∀ x, x ∈ R ↔ Rch (objOf bs) (refWords l cs) rs x) ∧ ts = toldOf bs R)
  else ts = [] ∧ e = 10
theorem ReachT.one {l : List Int} {cs : List Cls} {f g : Int} {rs ts us : List Int} {e e' : Int} (h : ReachT l cs f g rs ts e) (k : ReachT l cs f g rs us e') : ts = us ∧ e = e' := by
  unfold ReachT at h k
  split at h
  · rename_i hw
    rw [if_pos hw] at k
    split at h
    · rename_i hn
      simp only [hn] at k
      obtain ⟨rfl, rfl⟩ := h
      obtain ⟨rfl, rfl⟩ := k
      exact ⟨rfl, rfl⟩
    · rename_i bs hs
      simp only [hs] at k
      rcases h with ⟨rfl, rfl, hlo⟩ | ⟨rfl, hlo, R, hR, rfl⟩
      · rcases k with ⟨rfl, rfl, _⟩ | ⟨_, h1, _⟩
        · exact ⟨rfl, rfl⟩
        · exact absurd hlo h1
      · rcases k with ⟨_, _, h1⟩ | ⟨rfl, _, S, hS, rfl⟩
        · exact absurd h1 hlo
        · exact ⟨toldOf_congr bs (fun x => (hR x).trans (hS x).symm), rfl⟩
  · rename_i hw
    rw [if_neg hw] at k
    obtain ⟨rfl, rfl⟩ := h
    obtain ⟨rfl, rfl⟩ := k
    exact ⟨rfl, rfl⟩

theorem reaches_told {l : List Int} {cs : List Cls} {f g : Int} {rs : List Int} {bs : List Blk} {w w' : World} {e : Ending} (hl : l.length ≤ 65536) (hw : 0 ≤ f ∧ f ≤ g ∧ g ≤ l.length) (hs : walkOf l cs g f = some bs) (h : Reaches bs (refWords l cs) rs w e w') :
    ∃ v ts n, e = .returned (.tuple #[v, .int .i64 n]) ∧ w'.ownsRow w.heap.size 3 1 v ts.length (ts.map (Value.int .i64)) ∧ ReachT l cs f g rs ts n ∧ ts.length ≤ 65536 ∧ Turned [] w w' := by
  obtain ⟨ht, ⟨rfl, hlo⟩ | ⟨v, R, rfl, ho, hR, hlo⟩⟩ := h
  · exact ⟨_, [], 13, rfl, World.ownsRow_nil _ _ _ _, by unfold ReachT; rw [if_pos hw, hs]; exact .inl ⟨rfl, rfl, hlo⟩, by simp, ht⟩
  · refine ⟨v, _, 0, rfl, ho, by unfold ReachT; rw [if_pos hw, hs]; exact .inr ⟨rfl, hlo, R, hR, rfl⟩, ?_, ht⟩
    have h1 := toldOf_length bs R
    have h2 := (walkOf_facts hw.2.1 hs).few
    omega

theorem breach_all (v : Value) (l : List Int) (ao : Option Addr) (len cap : Nat) (cs : List Cls) (f g : Int) (ro : Option Addr) (rn rcap : Nat) (rs : List Int) (w : World) (hl : l.length ≤ 65536) (hi : AllIn l) (hv : AnyMem w v l) (hc : CRd w ao len cs) (hr : IRd w ro rn rs) :
    Calls Try.prog 15 #[v, .slice ao len cap, .int .i64 f, .int .i64 g, .slice ro rn rcap] w fun e w' => ∃ v ts n, e = .returned (.tuple #[v, .int .i64 n]) ∧ w'.ownsRow w.heap.size 3 1 v ts.length (ts.map (Value.int .i64)) ∧ ReachT l cs f g rs ts n ∧ ts.length ≤ 65536 ∧ Turned [] w w' := by
  by_cases hw : 0 ≤ f ∧ f ≤ g ∧ g ≤ l.length
  · cases hs : walkOf l cs g f with
    | none =>
      refine (reach_heap v l ao len cap cs f g _ w hl hv hc hw hs).mono ?_
      rintro e w' ⟨rfl, ht⟩
      exact ⟨_, [], 13, rfl, World.ownsRow_nil _ _ _ _, by unfold ReachT; rw [if_pos hw, hs]; exact ⟨rfl, rfl⟩, by simp, ht⟩
    | some bs =>
      refine (reach_in v l ao len cap cs f g ro rn rcap rs bs w hl hi hv hc hr hw hs).mono ?_
      exact fun e w' h => reaches_told hl hw hs h
  · refine (reach_out v l ao len cap f g _ w hv hw).mono ?_
    rintro e w' ⟨rfl, rfl⟩
    exact ⟨_, [], 10, rfl, World.ownsRow_nil _ _ _ _, by unfold ReachT; rw [if_neg hw]; exact ⟨rfl, rfl⟩, by simp, Turned.refl _ _⟩

theorem rreach_no (d : Nat) (l : List Int) (ao : Option Addr) (len cap : Nat) (cs : List Cls) (f g : Int) (rv : Value) (w : World) (hl : l.length ≤ 65536) (hd : Doc w d l) (hc : CRd w ao len cs) (h : walkE l cs f g ≠ 0) :
    Calls Try.prog 16 #[.slice (some ⟨d, 0, none⟩) l.length l.length, .slice ao len cap, .int .i64 f, .int .i64 g, rv] w fun e w' => e = .returned (.tuple #[.slice none 0 0, .int .i64 (walkE l cs f g)]) ∧ Turned [] w w' := by
  have HW := hide (rwalk_all d l ao len cap cs f g w hl hd hc)
  clear hd hc
  generalize walkE l cs f g = we at *
  generalize walkB l cs f g = wb at *
  go_enter Try.func16, Try.ntmps16
  go_wp2_with fail
  refine HW.out.mono ?_
  rintro e w1 ⟨v1, rfl, hown, ht1⟩
  have HT1 := hide ht1
  clear ht1 hown HW
  go_wp2_with fail
  go_ret2
  exact ⟨rfl, HT1.out⟩

theorem rreach_all (d : Nat) (l : List Int) (ao : Option Addr) (len cap : Nat) (cs : List Cls) (f g : Int) (ro : Option Addr) (rn rcap : Nat) (rs : List Int) (w : World) (hl : l.length ≤ 65536) (hi : AllIn l) (hd : Doc w d l) (hc : CRd w ao len cs) (hr : IRd w ro rn rs) (hro : ro = none → rn = 0 ∧ rcap = 0)
    (hm : (rs.length + l.length) * 8 ≤ 140737488355328) :
    Calls Try.prog 16 #[.slice (some ⟨d, 0, none⟩) l.length l.length, .slice ao len cap, .int .i64 f, .int .i64 g, .slice ro rn rcap] w fun e w' => ∃ v ts n, e = .returned (.tuple #[v, .int .i64 n]) ∧ w'.ownsRow w.heap.size 3 1 v ts.length (ts.map (Value.int .i64)) ∧ ReachT l cs f g rs ts n ∧ ts.length ≤ 65536 ∧ Turned [] w w' := by
  by_cases hw : 0 ≤ f ∧ f ≤ g ∧ g ≤ l.length
  · cases hs : walkOf l cs g f with
    | none =>
      have e : walkE l cs f g = 13 := by unfold walkE; rw [if_pos hw, hs]; rfl
      refine (rreach_no d l ao len cap cs f g _ w hl hd hc (by rw [e]; decide)).mono ?_
      rintro e2 w' ⟨rfl, ht⟩
      exact ⟨_, [], 13, by rw [e], World.ownsRow_nil _ _ _ _, by unfold ReachT; rw [if_pos hw, hs]; exact ⟨rfl, rfl⟩, by simp, ht⟩
    | some bs =>
      refine (rreach_in d l ao len cap cs f g ro rn rcap rs bs w hl hi hd hc hr hw hs hro (by have := left_walked (walkOf_facts hw.2.1 hs) hw.2.1 (List.replicate bs.length false); omega)).mono ?_
      exact fun e w' h => reaches_told hl hw hs h
  · have e : walkE l cs f g = 10 := by unfold walkE; rw [if_neg hw]
    refine (rreach_no d l ao len cap cs f g _ w hl hd hc (by rw [e]; decide)).mono ?_
    rintro e2 w' ⟨rfl, ht⟩
    exact ⟨_, [], 10, by rw [e], World.ownsRow_nil _ _ _ _, by unfold ReachT; rw [if_neg hw]; exact ⟨rfl, rfl⟩, by simp, ht⟩
end Go.Proofs.Ythigmechfcndcaa

/-
  What the laws over lists of items share: 'pick' of the laws, an argument's words, an operation alone at items that lie in order.
-/
import Derived.Test.YtdhfggdmlhgdoaaDequeSeq
import Derived.Test.YtdhfggdmlhgdoaaDequeAwake
import Derived.Test.YtdhfggdmlhgdoaaLawKit
namespace Go.Proofs.Ytdhfggdmlhgdoaa
open Go.RowKit

theorem lpick_any (c : Int) (n : Nat) (w : World) (hc : (Lit.int .i64 c).wf = true) (hn : 0 < n ∧ n ≤ 1000000) :
    Calls Try.prog 15 #[.int .i64 c, .int .i64 n] w fun e w' => (∃ r : Nat, e = .returned (.int .i64 r) ∧ r < n) ∧ w' = w := by
  have hr := wf_range hc
  have hz : ¬ ((n : Int) = 0) := by omega
  have hm1 : ¬ ((n : Int) = -1) := by omega
  have key : ∀ x : Int, 0 ≤ x → ∃ r : Nat, (.int .i64 (x.tmod n) : Value) = .int .i64 (r : Int) ∧ r < n := by
    intro x hx
    refine ⟨(x.tmod n).toNat, ?_, ?_⟩
    · have := Int.tmod_nonneg (n : Int) hx
      rw [Int.toNat_of_nonneg this]
    · have h1 := Int.tmod_nonneg (n : Int) hx
      have h2 := Int.tmod_lt_of_pos x (b := (n : Int)) (by omega)
      omega
  have KEY := hide key
  clear key hc
  by_cases hneg : c < 0
  · go_enter Try.func15, Try.ntmps15
    go_wp2_with fail
    go_ret
    obtain ⟨r, h1, h2⟩ := KEY.out (-(c + 1)) (by omega)
    refine ⟨⟨r, ?_, h2⟩, rfl⟩
    rw [← h1, Int.neg_tmod]
    rfl
  · go_enter Try.func15, Try.ntmps15
    go_wp2_with fail
    go_ret
    obtain ⟨r, h1, h2⟩ := KEY.out c (by omega)
    refine ⟨⟨r, ?_, h2⟩, rfl⟩
    rw [← h1, Int.tmod_eq_emod_of_nonneg (by omega)]
    rfl

/-- An argument's first words. -/
def RR (w : World) (a : Option Addr) (L : Nat) (xs : Nat → Int) : Prop := ∀ i, i < L → ∃ b off, a = some ⟨b, off, none⟩ ∧ w.cell? ⟨b, off + i, none⟩ = some (.int .i64 (xs i))
theorem rr_of {w : World} {a : Option Addr} {len cap : Nat} {zs : List Int} (h : IsRow .i64 w a len cap zs) : RR w a len (fun i => zs.getD i 0) ∧ len ≤ 9223372036854775807 ∧ len ≤ cap := by
  have hcap : len ≤ cap := by
    rcases h with ⟨_, h0, h1, _⟩ | ⟨x, _, h1, _⟩
    · omega
    · exact h1
  rcases h.cases with h0 | ⟨b, off, ha, _, h1, _, h2, _⟩
  · exact ⟨fun i hi => by omega, by omega, hcap⟩
  · exact ⟨fun i hi => ⟨b, off, ha, h2 i hi⟩, h1, hcap⟩

theorem lies_zero (n k : Nat) (hn : 1 ≤ n) (hk : 4 + n + 40 ≤ k) (xs : Nat → Int) : Lies ⟨0, n, 40⟩ (List.replicate k 0) xs 0 0 n := by
  have z : ∀ j, rd ⟨0, n, 40⟩ (List.replicate k 0) j = 0 := by
    intro j
    unfold rd
    rw [List.getD_eq_getElem?_getD, List.getElem?_replicate]
    split <;> rfl
  exact ⟨⟨z 0, z 1, z 2, by rw [z]; simp, by simp; omega, hn, by simp, by simp⟩, by simp, fun i h1 h2 => by omega, fun i h1 h2 => by simp at h1; omega, by simp⟩

section
variable {w : World} {d p q b : Nat} {C : Cfg} {l l' : List Int} {xs : Nat → Int} {T B M : Nat}
theorem Lies.low (h : Lies C l xs T B M) (hc : C.cap ≤ 64) : (-1000000 ≤ rd C l 0 ∧ rd C l 0 ≤ 1000000) ∧ (-1000000 ≤ rd C l 1 ∧ rd C l 1 ≤ 1000000) := by
  have h1 := h.sq.le
  have h2 := h.hi
  rw [h.sq.t, h.sq.b]
  omega

theorem Dn.alone (h : Dn w d p q C l) {a : Stp} {v : Int} {r : Int × Int} (ho : OpB w b d (opNew a v)) (hne : b ≠ d ∧ b ≠ p ∧ b ≠ q) (ha : a = .pushReadBottom ∨ a = .popReadBottom ∨ a = .stealReadTop) (hl : Lies C l xs T B M) (hc : C.cap ≤ 64) (hd : Did C a v l l' r) :
    Calls Try.prog 31 #[.pointer (some ⟨d, 0, none⟩), .pointer (some ⟨b, 0, none⟩)] w fun e w' => e = .returned (.tuple #[.int .i64 r.1, .int .i64 r.2]) ∧ Dn w' d p q C l' ∧ Turned [p, q, b] w w' :=
  h.did ho hne l' r ha (hl.low hc).1 (hl.low hc).2 hd.1 hd.2.1 hd.2.2

/-- Nothing lies there. -/
theorem Lies.none (h : Lies C l xs T T M) (hM : M ≤ C.cap) : itemsOf C l = [] := by
  have e1 : heldOf C (rd C l 0) (rd C l 1) = 0 := by rw [h.sq.t, h.sq.b]; unfold heldOf; rw [if_pos (Int.le_refl _)]
  have e2 : stackedOf C (rd C l 3) = 0 := by rw [h.sq.n, h.sq.stk]; omega
  have e3 : ∀ k, seg C l k 0 = [] := fun k => by unfold seg; rw [Nat.add_zero]; exact List.drop_eq_nil_of_le (by rw [List.length_take]; omega)
  unfold itemsOf
  rw [e1, e2]
  simp [e3]
end
end Go.Proofs.Ytdhfggdmlhgdoaa

/-
  Some offers in the model's heap ('Ofs'), a row of pointers ('PRow'), 'pick' of the laws of layer 7.
-/
import Derived.Test.YtokabpgdklihlaaQuietAllP
import Derived.Test.YtokabpgdklihlaaLawKit
import Derived.Maps.AppendAt
namespace Go.Proofs.Ytokabpgdklihlaa
open Go.RowKit

theorem lpick_any (c : Int) (n : Nat) (w : World) (hc : (Lit.int .i64 c).wf = true) (hn : 0 < n ∧ n ≤ 1000000) :
    Calls Try.prog 7 #[.int .i64 c, .int .i64 n] w fun e w' => (∃ r : Nat, e = .returned (.int .i64 r) ∧ r < n) ∧ w' = w := by
  have hr := wf_range hc
  have hz : ¬ ((n : Int) = 0) := by omega
  have hm1 : ¬ ((n : Int) = -1) := by omega
  have key : ∀ x : Int, 0 ≤ x → ∃ r : Nat, (.int .i64 (x.tmod n) : Value) = .int .i64 (r : Int) ∧ r < n := by
    intro x hx
    refine ⟨(x.tmod n).toNat, ?_, ?_⟩
    · have := Int.tmod_nonneg (n : Int) hx
      rw [Int.toNat_of_nonneg this]
    · have h1 := Int.tmod_nonneg (n : Int) hx
      have h2 := Int.tmod_lt_of_pos x (b := (n : Int)) (by omega)
      omega
  have KEY := hide key
  clear key hc
  by_cases hneg : c < 0
  · go_enter Try.func7, Try.ntmps7
    go_wp2_with fail
    go_ret
    obtain ⟨r, h1, h2⟩ := KEY.out (-(c + 1)) (by omega)
    refine ⟨⟨r, ?_, h2⟩, rfl⟩
    rw [← h1, Int.neg_tmod]
    rfl
  · go_enter Try.func7, Try.ntmps7
    go_wp2_with fail
    go_ret
    obtain ⟨r, h1, h2⟩ := KEY.out c (by omega)
    refine ⟨⟨r, ?_, h2⟩, rfl⟩
    rw [← h1, Int.tmod_eq_emod_of_nonneg (by omega)]
    rfl

/-- An argument's first words. -/
def RR (w : World) (a : Option Addr) (L : Nat) (xs : Nat → Int) : Prop := ∀ i, i < L → ∃ b off, a = some ⟨b, off, none⟩ ∧ w.cell? ⟨b, off + i, none⟩ = some (.int .i64 (xs i)) ∧ (Lit.int .i64 (xs i)).wf = true
theorem rr_of {w : World} {a : Option Addr} {len cap : Nat} {zs : List Int} (h : IsRow .i64 w a len cap zs) : RR w a len (fun i => zs.getD i 0) ∧ len ≤ 9223372036854775807 ∧ len ≤ cap := by
  have hcap : len ≤ cap := by
    rcases h with ⟨_, h0, h1, _⟩ | ⟨x, _, h1, _⟩
    · omega
    · exact h1
  rcases h.cases with h0 | ⟨b, off, ha, _, h1, _, h2, h3⟩
  · exact ⟨fun i hi => by omega, by omega, hcap⟩
  · exact ⟨fun i hi => ⟨b, off, ha, h2 i hi, h3 i⟩, h1, hcap⟩

/-- A row of pointers, of type T: where it lies. -/
def PRow (T : TypeId) (w : World) (v : Value) (xs : List Nat) : Prop :=
  ∃ g cap, v = .slice (some ⟨g, 0, none⟩) xs.length cap ∧ (∃ cc fr, w.heap[g]? = some (.cells cc T fr)) ∧ ∀ i x, xs[i]? = some x → w.cell? ⟨g, i, none⟩ = some (pd x)

theorem PRow.keep {T : TypeId} {w w' : World} {v : Value} {xs : List Nat} (h : PRow T w v xs) {S : List Nat} (t : Turned S w w') (hS : ∀ k, k ∈ S → ∃ c e fr, w.heap[k]? = some (.cells c e fr) ∧ e ≠ T) : PRow T w' v xs := by
  obtain ⟨g, cap, rfl, ⟨cc, fr, hr⟩, hc⟩ := h
  have hg : g ∉ S := fun hg => by
    obtain ⟨c, e, fr2, h1, h2⟩ := hS g hg
    exact ne_of_type h1 hr h2 rfl
  exact ⟨g, cap, rfl, ⟨cc, fr, by rw [t.block g (lt_of_heap hr) hg]; exact hr⟩, fun i x hx => by rw [t.cell (p := ⟨g, i, none⟩) (lt_of_heap hr) hg]; exact hc i x hx⟩

theorem PRow.cell {T : TypeId} {w : World} {g n cap : Nat} {xs : List Nat} (h : PRow T w (.slice (some ⟨g, 0, none⟩) n cap) xs) {i x : Nat} (hx : xs[i]? = some x) : w.cell? ⟨g, i, none⟩ = some (.pointer (some ⟨x, 0, none⟩)) := by
  obtain ⟨g2, cap2, hv, _, hc⟩ := h
  cases hv
  exact hc i x hx

theorem PRow.of {T : TypeId} {w : World} {B : Nat} {v : Value} {n : Nat} {xs : List Nat} (h : w.ownsRow B T 1 v n (xs.map pd)) (hn : 0 < n) : PRow T w v xs := by
  have hl : xs.length = n := by simpa using h.1
  obtain ⟨g, cap, rfl, _, _, _, h3, _, cc, h4⟩ := ownsRow_open h hn
  exact ⟨g, cap, by rw [hl], ⟨cc, _, h4⟩, fun i x hx => h3 i _ (by rw [List.getElem?_map, hx]; rfl)⟩

/-- What a grown row has turned. -/
theorem turned_grown {w w' : World} {v : Value} (hg : w.grownBy w' v.ownBlock) : Turned v.ownBlock.toList w w' :=
  (Turned.refl _ _).grown hg (fun k hk => .inl (by simp [hk]))

/-- Some offers. -/
structure Ofs (W0 : Nat) (w : World) (a : Nat) (ds xs : List Nat) (A : Nat → OfS) : Prop where
  of_ : ∀ i b, xs[i]? = some b → OfB w b a ds (A i)
  nd : ∀ (i j b : Nat), xs[i]? = some b → xs[j]? = some b → i = j
  lo : ∀ b, b ∈ xs → W0 ≤ b

section
variable {W0 : Nat} {w w' : World} {a p q : Nat} {ds xs : List Nat} {Q : QC} {l : List Int} {A : Nat → OfS}
theorem Ofs.keep (h : Ofs W0 w a ds xs A) {S : List Nat} (t : Turned S w w') (hS : ∀ k, k ∈ S → ∃ c e fr, w.heap[k]? = some (.cells c e fr) ∧ e ≠ 75 ∧ e ≠ 36) : Ofs W0 w' a ds xs A := by
  refine ⟨fun i b hb => (h.of_ i b hb).turned t (fun hm => ?_) (fun k hk => ?_), h.nd, h.lo⟩
  · obtain ⟨c, e, fr, h1, h2, _⟩ := hS b hm
    obtain ⟨c2, h3⟩ := (h.of_ i b hb).type
    exact ne_of_type h1 h3 h2 rfl
  · obtain ⟨c, e, fr, h1, _, h2⟩ := hS k hk
    exact noRow h1 h2
theorem Ofs.keep0 (h : Ofs W0 w a ds xs A) (t : Turned [] w w') : Ofs W0 w' a ds xs A := h.keep t (by simp)

theorem Ofs.step (h : Ofs W0 w a ds xs A) (hs : Sx w a p q ds Q l) {i b : Nat} (hb : xs[i]? = some b) {o' : OfS} (ho : OfB w' b a ds o') (t : Turned [p, q, b] w w') : Ofs W0 w' a ds xs (updo A i o') := by
  refine ⟨fun j c hc => ?_, h.nd, h.lo⟩
  by_cases hji : j = i
  · subst hji
    have : c = b := by rw [hb] at hc; exact (Option.some.inj hc).symm
    subst this
    simpa [updo] using ho
  · have e : updo A i o' j = A j := by simp [updo, hji]
    rw [e]
    exact OfB.other hs (h.of_ i b hb) (h.of_ j c hc) (fun e => hji (h.nd j i c hc (by rw [e]; exact hb))) t

/-- One more. -/
theorem Ofs.push (h : Ofs W0 w a ds xs A) {b : Nat} {o : OfS} (t : Turned [] w w') (ho : OfB w' b a ds o) (hb : w.heap.size ≤ b) (hW : W0 ≤ w.heap.size) : Ofs W0 w' a ds (xs ++ [b]) (updo A xs.length o) := by
  have h1 := h.keep0 t
  have hlt : ∀ i c, xs[i]? = some c → c < b := fun i c hc => Nat.lt_of_lt_of_le (h.of_ i c hc).lt hb
  refine ⟨fun i c hc => ?_, fun i j c hi hj => ?_, fun c hc => ?_⟩
  · by_cases hi : i < xs.length
    · rw [List.getElem?_append_left hi] at hc
      have e : updo A xs.length o i = A i := by simp [updo]; omega
      rw [e]
      exact h1.of_ i c hc
    · have hi' : i = xs.length := by have := (List.getElem?_eq_some_iff.1 hc).1; simp at this; omega
      subst hi'
      simp at hc
      subst hc
      simpa [updo] using ho
  · by_cases hi' : i < xs.length
    · rw [List.getElem?_append_left hi'] at hi
      by_cases hj' : j < xs.length
      · rw [List.getElem?_append_left hj'] at hj
        exact h.nd i j c hi hj
      · have hj2 : j = xs.length := by have := (List.getElem?_eq_some_iff.1 hj).1; simp at this; omega
        subst hj2
        simp at hj
        have := hlt i c hi
        omega
    · have hi2 : i = xs.length := by have := (List.getElem?_eq_some_iff.1 hi).1; simp at this; omega
      subst hi2
      simp at hi
      by_cases hj' : j < xs.length
      · rw [List.getElem?_append_left hj'] at hj
        have := hlt j c hj
        omega
      · have := (List.getElem?_eq_some_iff.1 hj).1
        simp at this
        omega
  · simp at hc
    rcases hc with hc | rfl
    · exact h.lo c hc
    · omega

/-- The memory's blocks and an offer's are of these types. -/
theorem Sx.types (hs : Sx w a p q ds Q l) {b : Nat} {o : OfS} (hb : OfB w b a ds o) : ∀ k, k ∈ [p, q, b] → ∃ c e fr, w.heap[k]? = some (.cells c e fr) ∧ (e = 62 ∨ e = 2 ∨ e = 75) := by
  obtain ⟨s, h⟩ := hs
  obtain ⟨c, hc⟩ := hb.type
  intro k hk
  simp at hk
  rcases hk with rfl | rfl | rfl
  · exact ⟨_, _, _, h.mem.head, .inl rfl⟩
  · exact ⟨_, _, _, h.mem.row, .inr (.inl rfl)⟩
  · exact ⟨_, _, _, hc, .inr (.inr rfl)⟩
end
end Go.Proofs.Ytokabpgdklihlaa

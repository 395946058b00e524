/-
  The program's gang and the document's, side by side ('Syn'): both arrivals tell the same, and both tell the same of who waits.
-/
import Derived.Test.YtpaiehieddicmaaRefGang
namespace Go.Proofs.Ytpaiehieddicmaa
open Go.RowKit
set_option linter.unusedVariables false

/-- The document's marks say who has arrived. -/
def Syn (n : Nat) (ws : List Int) (came : Nat) (bs : List Bool) : Prop := bs.length = n ∧ ∀ k : Nat, k < n → bs[k]? = some (decide ((k : Int) ∈ ws.take came))

theorem Syn.start (n : Nat) : Syn n (ids n) 0 (List.replicate n false) := ⟨by simp, fun k hk => by rw [List.getElem?_replicate, if_pos hk]; simp⟩

theorem Syn.waits {n : Nat} {ws : List Int} {came : Nat} {bs : List Bool} (h : Syn n ws came bs) (hI : GI n ws came) : srt (ws.take came) = ins bs n := by
  have hsrt : (ins bs n).Pairwise (· < ·) := by
    unfold ins ids
    refine List.Pairwise.filter _ ?_
    exact List.Pairwise.map _ (fun a b (hab : a < b) => Int.ofNat_lt.2 hab) List.pairwise_lt_range
  have hnd : (ws.take came).Nodup := hI.nodup.sublist (List.take_sublist _ _)
  have hm : ∀ x, x ∈ ws.take came ↔ x ∈ ins bs n := fun x => by
    unfold ins
    rw [List.mem_filter, mem_ids]
    constructor
    · intro hx
      have hr := hI.mem.1 (List.mem_of_mem_take hx)
      refine ⟨hr, ?_⟩
      rw [List.getD_eq_getElem?_getD, h.2 x.toNat (by omega), Int.toNat_of_nonneg hr.1]
      simpa using hx
    · rintro ⟨hr, hx⟩
      rw [List.getD_eq_getElem?_getD, h.2 x.toNat (by omega), Int.toNat_of_nonneg hr.1] at hx
      simpa using hx
  have hp : (ws.take came).Perm (ins bs n) := (List.perm_ext_iff_of_nodup hnd (hsrt.imp fun {a b} hab e => by rw [e] at hab; omega)).2 hm
  unfold srt
  refine List.Perm.eq_of_pairwise (le := fun a b : Int => a ≤ b) (fun a b _ _ h1 h2 => by omega) ?_ (hsrt.imp fun h => by omega) ((List.mergeSort_perm _ _).trans hp)
  have h := List.pairwise_mergeSort (le := fun x y : Int => decide (x ≤ y)) (fun a b c h1 h2 => by simp at *; omega) (fun a b => by simp; omega) (ws.take came)
  exact h.imp fun h => by simpa using h

theorem Syn.more {n : Nat} {ws ws' : List Int} {came : Nat} {bs : List Bool} {k : Nat} (h : Syn n ws came bs) (hk : k < n) (hs : ∀ y, y ∈ ws'.take (came + 1) ↔ y = (k : Int) ∨ y ∈ ws.take came) : Syn n ws' (came + 1) (bs.set k true) := by
  refine ⟨by simpa using h.1, fun i hi => ?_⟩
  by_cases hik : i = k
  · subst hik
    rw [List.getElem?_set_self (by rw [h.1]; exact hi), decide_eq_true]
    rw [hs]; exact .inl rfl
  · rw [List.getElem?_set_ne (by omega), h.2 i hi]
    congr 1
    by_cases hm : (i : Int) ∈ ws.take came
    · rw [decide_eq_true hm, decide_eq_true ((hs _).2 (.inr hm))]
    · rw [decide_eq_false hm, decide_eq_false]
      rw [hs]
      rintro (e | e)
      · omega
      · exact hm e

theorem both_arrive {w : World} {p q n : Nat} {ws ws' : List Int} {came came' : Nat} {ph ph' x er : Int} {b : Bool} {bs : List Bool} (h : Rg w p q bs ph) (hs : Syn n ws came bs) (ha : Arr n ws came ph x b er ws' came' ph') (hI' : GI n ws' came') (hph : 0 ≤ ph ∧ ph < 1000000000) :
    Calls Try.prog 12 #[ptr p, .int .i64 x] w fun e w' => ∃ bs', e = .returned (.tuple #[.bool b, .int .i64 er]) ∧ Rg w' p q bs' ph' ∧ Syn n ws' came' bs' ∧ Turned [p, q] w w' := by
  have hl := hs.1
  cases ha with
  | task hx =>
    refine (rarrive_task w p q bs ph x h (by rw [hl]; exact hx)).mono ?_
    rintro e w' ⟨rfl, rfl⟩
    exact ⟨bs, rfl, h, hs, Turned.refl _ _⟩
  | state hx hm =>
    obtain ⟨k, rfl⟩ := Int.eq_ofNat_of_zero_le hx.1
    refine (rarrive_state w p q bs ph h k (by rw [hs.2 k (by omega), decide_eq_true hm])).mono ?_
    rintro e w' ⟨rfl, rfl⟩
    exact ⟨bs, rfl, h, hs, Turned.refl _ _⟩
  | more hx hm hc hss =>
    obtain ⟨k, rfl⟩ := Int.eq_ofNat_of_zero_le hx.1
    have hS := hs.more (show k < n by omega) hss
    have hall : allT (bs.set k true) = false := by
      obtain ⟨i, hi, hni⟩ := hI'.one
      have h3 := hS.2 i hi
      rw [decide_eq_false hni] at h3
      unfold allT
      rw [List.all_eq_false]
      exact ⟨false, List.mem_of_getElem? h3, by simp⟩
    refine (rarrive_ok w p q bs ph h k (by rw [hs.2 k (by omega), decide_eq_false hm]) hph).mono ?_
    rintro e w' ⟨rfl, h1, h2⟩
    unfold rbs rph at h1
    rw [hall] at h1
    refine ⟨bs.set k true, by rw [hall], by simpa using h1, hS, h2⟩
  | last hx hm hc hss =>
    obtain ⟨k, rfl⟩ := Int.eq_ofNat_of_zero_le hx.1
    have hall : allT (bs.set k true) = true := by
      unfold allT
      rw [List.all_eq_true]
      intro y hy
      obtain ⟨i, hi⟩ := List.getElem?_of_mem hy
      have hin : i < n := by have := (List.getElem?_eq_some_iff.1 hi).1; simpa [hl] using this
      by_cases hik : i = k
      · subst hik
        rw [List.getElem?_set_self (by omega)] at hi
        cases hi; rfl
      · rw [List.getElem?_set_ne (by omega), hs.2 i hin] at hi
        cases hi
        rcases hss i (by omega) with e | e
        · omega
        · simpa using e
    refine (rarrive_ok w p q bs ph h k (by rw [hs.2 k (by omega), decide_eq_false hm]) hph).mono ?_
    rintro e w' ⟨rfl, h1, h2⟩
    unfold rbs rph at h1
    rw [hall] at h1
    refine ⟨List.replicate n false, by rw [hall], by simpa [hl] using h1, ⟨by simp, fun i hi => by rw [List.getElem?_replicate, if_pos hi]; simp⟩, h2⟩
end Go.Proofs.Ytpaiehieddicmaa

/-
  Objects: the keys of the monitors' map, rising.
-/
import Derived.Shelf.SlIterI.Nil
import Derived.Shelf.SortM.Plain
import Derived.Shelf.SortM.SortNone
import Derived.Shelf.AbstractIn
import Derived.Ground.GgzProg
import Derived.Ground.SlgmProg
import Derived.Test.YtlbcbphkgaoliabMonLook
namespace Go.Proofs.Ytlbcbphkgaoliab
open Go.RowKit Go.Maps Go.Sort Go.Shelf
set_option linter.unusedVariables false

shelf_lay_g SlLaysZI.n7 Ggz 7 at Try 29 as Try.keysA
shelf_lay_g SlLaysZI.n6 Ggz 6 at Try 28 as Try.sortedA
shelf_lay_g SlLaysM.n5 Slgm 5 at Try 37 as Try.sortA

theorem Try.sortsA (m : Nat) : AnyZI.SortsIn Try.prog Try.sortedA_ren Fence.wide m :=
  ⟨fun blk off cap ss W hH hblk hsz => callsIn_wide.2 (AnyM.slices_Sort_int Try.sortA blk off cap ss W hH hblk hsz),
   fun p cap W => callsIn_wide.2 (AnyM.slices_Sort_int_none Try.sortA p cap W)⟩

/-- Sorted, each once, just those that have a monitor. -/
structure ObjsOf (f : Int → Bool) (l : List Int) : Prop where
  up : l.Pairwise (fun x y => x < y)
  mem : ∀ x, x ∈ l ↔ f x = true
  inn : ∀ x, x ∈ l → I64 x
theorem i64_wf {n : Int} (h : (Lit.int .i64 n).wf = true) : I64 n := by
  have h1 : IntKind.i64.min ≤ n ∧ n ≤ 9223372036854775807 := by simpa [Lit.wf] using h
  exact ⟨by have h2 := h1.1; have e : IntKind.i64.min = -9223372036854775808 := by decide
            omega, h1.2⟩
theorem keys_of {w : World} {b n : Nat} {D : DataW Unit} {R : Value → Option (DataW Unit × List MemPlace)} (h : w.ownsMap Try.prog 2 R b n D) {f : Int → Bool} (hf : ∀ x, Maps.has D (.int .i64 x) = f x) {ss : List Int} (hp : ss.Perm (intKeys D)) : ObjsOf f (ss.mergeSort leI) ∧ ss.length ≤ n := by
  have hwf := intKeys_wf h Try.underlying2
  have hsz := h.size_le
  obtain ⟨es, hD, hpw, _⟩ := h.entries lawO
  obtain ⟨es', hD', hko⟩ := h.keysOf
  obtain rfl : es = es' := by rw [hD] at hD'; simpa using hD'
  subst hD
  have hk : ∀ p ∈ es, ∃ x, p.1 = Lit.int .i64 x := fun p hp => by obtain ⟨v, hv⟩ := hko p hp; obtain ⟨x, _, hx, _⟩ := Maps.keyOf_i64 Try.underlying2 hv; exact ⟨x, hx⟩
  have hnd : (intKeys (DataW.map es)).Nodup := by
    show (es.map fun p => Go.intOf p.1).Nodup
    refine List.pairwise_map.2 (hpw.imp_of_mem fun {p q} hp' hq' hne e => hne ?_)
    obtain ⟨a, ha⟩ := hk p hp'
    obtain ⟨b, hb⟩ := hk q hq'
    rw [ha, hb] at e ⊢
    exact congrArg _ e
  have hmem : ∀ x, x ∈ intKeys (DataW.map es) ↔ f x = true := fun x => by
    rw [← hf x, has_eq, List.any_eq_true]
    show x ∈ es.map (fun p => Go.intOf p.1) ↔ _
    rw [List.mem_map]
    constructor
    · rintro ⟨p, hp', rfl⟩
      obtain ⟨a, ha⟩ := hk p hp'
      exact ⟨p, hp', by rw [ha]; simp [Lit.sameKey, Go.intOf]⟩
    · rintro ⟨p, hp', hs⟩
      obtain ⟨a, ha⟩ := hk p hp'
      rw [ha] at hs
      exact ⟨p, hp', by rw [ha]; simpa [Lit.sameKey, Go.intOf] using hs⟩
  have tr : ∀ a b c : Int, leI a b = true → leI b c = true → leI a c = true := fun a b c h1 h2 => by simp only [leI, decide_eq_true_eq] at *; exact Int.le_trans h1 h2
  have tot : ∀ a b : Int, (leI a b || leI b a) = true := fun a b => by simp only [leI, Bool.or_eq_true, decide_eq_true_eq]; exact Int.le_total a b
  have hms := List.mergeSort_perm ss leI
  have hall := hms.trans hp
  have hnd2 : (ss.mergeSort leI).Nodup := hall.nodup_iff.2 hnd
  have hpw2 := List.pairwise_mergeSort tr tot ss
  refine ⟨⟨?_, fun x => ?_, fun x hx => i64_wf (hwf x (hall.mem_iff.1 hx))⟩, ?_⟩
  · refine (hpw2.and hnd2).imp ?_
    rintro a b ⟨h1, h2⟩
    simp only [leI, decide_eq_true_eq] at h1
    omega
  · rw [hall.mem_iff]; exact hmem x
  · rw [hp.length_eq]
    show (es.map fun p => Go.intOf p.1).length ≤ n
    rw [List.length_map]
    exact hsz
-- CUT
/-- What Objects tells. -/
def ObjsT (w : World) (f : Int → Bool) (e : Ending) (w' : World) : Prop := ∃ (v : Value) (l : List Int), e = .returned v ∧ ObjsOf f l ∧ w'.ownsRow w.heap.size 2 1 v l.length (l.map encZ) ∧ (v = .slice none 0 0 ↔ l = []) ∧ Below w.heap.size w w'
set_option maxHeartbeats 1000000 in
set_option maxRecDepth 100000 in
/-- Objects, where there is a map. -/
theorem objects_map (b n p : Nat) (D0 : DataW Unit) (R : Value → Option (DataW Unit × List MemPlace)) (w : World) (hn : n ≤ 1000000) (hown : w.ownsMap Try.prog 2 R b n D0) (f : Int → Bool) (hf : ∀ x, Maps.has D0 (.int .i64 x) = f x)
    (c0 : w.cell? ⟨p, 0, none⟩ = some (.map (some b))) :
    Calls Try.prog 13 #[.pointer (some ⟨p, 0, none⟩)] w (ObjsT w f) := by
  refine (callsIn_wide (n := 6)).1 ?_
  have hbl := hown.lt
  have hsz := hown.size_le
  have hmax : Maps.size D0 ≤ maxLen := by unfold maxLen; omega
  have hbytes : Maps.size D0 * 8 ≤ 140737488355328 := by omega
  have hseq : SeqGives Fence.wide 2 Try.prog 38 #[.pointer (some ⟨w.heap.size, 0, none⟩)] encZ (fun ss => ss.Perm (intKeys D0)) (Maps.size D0) (w.alloc (.cells #[.map (some b)] 39)) :=
    AnyZI.keys_gives (ρ := Try.keysA_ren) { Try.keysA with } Fence.wide _ trivial rfl (by omega) w.heap.size b n D0 _ (by simp) (by simp) (by
      obtain ⟨es, clock, hb, Ft, hs, hD⟩ := hown
      exact ⟨es, clock, (Below.heap_alloc _ _ b hbl).trans hb, Ft, hs, hD⟩)
  have cK : ∀ mb W, CallsIn Fence.wide 5 Try.prog 29 #[.map mb] W fun e w' => e = .returned (.func (.func 38) #[] #[.pointer (some ⟨W.heap.size, 0, none⟩)]) ∧ w' = W.alloc (.cells #[.map mb] 39) := fun mb W => AnyZI.keys_in Try.keysA Fence.wide 5 trivial rfl mb W
  have cS := AnyZI.sorted_in Try.sortedA Fence.wide 5 trivial trivial trivial trivial rfl (by omega) (Try.sortsA _) (enters_of Try.func37 (by kernel_rfl) rfl) 38 #[.pointer (some ⟨w.heap.size, 0, none⟩)] trivial (enters_of Try.func38 (by kernel_rfl) rfl) _ _ hmax hbytes _ hseq
  change CallsIn _ _ Try.prog 28 _ _ _ at cS
  have hfK : Fence.wide.fn 29 := trivial
  have hfS : Fence.wide.fn 28 := trivial
  refine callsIn_of_wp Try.func13 rfl trivial ?_ rfl
  simp only [Try.ntmps13, List.size_toArray, List.length_cons, List.length_nil, Nat.reduceAdd, Nat.reduceSub, Array.replicate_succ, Array.replicate_zero, List.push_toArray, List.append_toArray, List.nil_append, List.cons_append]
  gi_wp2_with (first
    | (gi_at_call 29; refine (cK _ _).mono ?_; rintro e w' ⟨rfl, rfl⟩)
    | (gi_at_call 28; refine cS.mono ?_; rintro e w' ⟨v, ss, rfl, hS, hrow, hnil, hb⟩))
  go_ret
  obtain ⟨h1, h2⟩ := keys_of hown hf hS
  refine ⟨v, ss.mergeSort leI, rfl, h1, ?_, ?_, ((Below.refl _ w).alloc (Nat.le_refl _) _).trans (hb.mono (by simp))⟩
  · rw [List.length_mergeSort]
    exact ownsRow_base_a hrow (by simp)
  · rw [hnil]
    constructor
    · rintro rfl; simp
    · intro h
      have := congrArg List.length h
      rw [List.length_mergeSort] at this
      exact List.eq_nil_of_length_eq_zero this
set_option maxHeartbeats 1000000 in
set_option maxRecDepth 100000 in
/-- Objects, where there is none. -/
theorem objects_none (p : Nat) (w : World) (c0 : w.cell? ⟨p, 0, none⟩ = some (.map none)) :
    Calls Try.prog 13 #[.pointer (some ⟨p, 0, none⟩)] w fun e w' => e = .returned (.slice none 0 0) ∧ Below w.heap.size w w' := by
  refine (callsIn_wide (n := 6)).1 ?_
  have hseq : SeqGives Fence.wide 2 Try.prog 38 #[.pointer (some ⟨w.heap.size, 0, none⟩)] encZ (fun ss : List Int => ss = []) 0 (w.alloc (.cells #[.map none] 39)) :=
    AnyZI.keys_gives_nil (ρ := Try.keysA_ren) { Try.keysA with } Fence.wide _ trivial rfl w.heap.size _ (by simp) (by simp)
  have cK : ∀ mb W, CallsIn Fence.wide 5 Try.prog 29 #[.map mb] W fun e w' => e = .returned (.func (.func 38) #[] #[.pointer (some ⟨W.heap.size, 0, none⟩)]) ∧ w' = W.alloc (.cells #[.map mb] 39) := fun mb W => AnyZI.keys_in Try.keysA Fence.wide 5 trivial rfl mb W
  have cS := AnyZI.sorted_in Try.sortedA Fence.wide 5 trivial trivial trivial trivial rfl (by omega) (Try.sortsA _) (enters_of Try.func37 (by kernel_rfl) rfl) 38 #[.pointer (some ⟨w.heap.size, 0, none⟩)] trivial (enters_of Try.func38 (by kernel_rfl) rfl) _ 0 (Nat.zero_le _) (by omega) _ hseq
  change CallsIn _ _ Try.prog 28 _ _ _ at cS
  have hfK : Fence.wide.fn 29 := trivial
  have hfS : Fence.wide.fn 28 := trivial
  refine callsIn_of_wp Try.func13 rfl trivial ?_ rfl
  simp only [Try.ntmps13, List.size_toArray, List.length_cons, List.length_nil, Nat.reduceAdd, Nat.reduceSub, Array.replicate_succ, Array.replicate_zero, List.push_toArray, List.append_toArray, List.nil_append, List.cons_append]
  gi_wp2_with (first
    | (gi_at_call 29; refine (cK _ _).mono ?_; rintro e w' ⟨rfl, rfl⟩)
    | (gi_at_call 28; refine cS.mono ?_; rintro e w' ⟨v, ss, rfl, rfl, hrow, hnil, hb⟩; obtain rfl : v = .slice none 0 0 := hnil.2 rfl))
  go_ret
  exact ⟨rfl, ((Below.refl _ w).alloc (Nat.le_refl _) _).trans (hb.mono (by simp))⟩
/-- Objects of a nil table. -/
theorem objects_nil (w : World) : Calls Try.prog 13 #[.pointer none] w fun e w' => e = .returned (.slice none 0 0) ∧ w' = w := by
  go_enter Try.func13, Try.ntmps13
  go_wp2_with fail
  go_ret
  exact ⟨rfl, rfl⟩
/-- Objects. -/
theorem objects_call {B p n : Nat} {w : World} {g : Int → Option Mon} {S : Int → Bool} (hn : n ≤ 1000000) (h : Tb B w p n g S) : Calls Try.prog 13 #[.pointer (some ⟨p, 0, none⟩)] w (ObjsT w (fun x => (g x).isSome)) := by
  obtain ⟨mo, so, f, h1, h2, h3, h4, h5⟩ := h.ex
  have c0 : w.cell? ⟨p, 0, none⟩ = some (.map mo) := by rw [cell_of_heap h1.row]; rfl
  cases hmo : mo with
  | none =>
    subst hmo
    refine (objects_none p w c0).mono ?_
    rintro e w' ⟨rfl, hb⟩
    refine ⟨_, [], rfl, ⟨List.Pairwise.nil, fun x => ?_, fun x hx => by cases hx⟩, World.ownsRow_nil _ _ _ _, by simp, hb⟩
    have := h1.mm x
    rw [← h2 x, this]
    simp
  | some k =>
    subst hmo
    obtain ⟨D, hown, hD⟩ := h1.mm
    exact objects_map k n p D _ w hn hown _ (fun x => by rw [(hD x).1, h2 x]) c0
end Go.Proofs.Ytlbcbphkgaoliab

/-
  The picks of TurnsAdds, one behind the other.
-/
import Derived.Test.YtihoffaolonfhaaTurnsAdder
namespace Go.Proofs.Ytihoffaolonfhaa
open Go.RowKit
set_option linter.unusedVariables false

/-- The task that adds. -/
def adT (b ad : Nat) (s n : Int) : Task := ⟨b, .func (.func 29) #[.pointer (some ⟨ad, 0, none⟩)] #[], [], [], fun _ _ => True, fun _ => 0, s, n⟩
/-- The task that is added. -/
def toT (B b x : Nat) (ao : Option Addr) (len cap : Nat) (l : List Int) (s n : Int) : Task := ⟨b, toldFv x, [x], x :: rowA ao l, ToldD B x ao len cap l, fun n => tellOf l n.toNat, s, n⟩

section
variable {B : Nat} {w : World} {p : Nat} {F : List Nat} {ts : List Task} {ad x : Nat} {ao : Option Addr} {len cap : Nat} {l : List Int} {n made tn : Int}
theorem Ad.below (h : Ad B w p F ts ad x ao len cap l n made tn) {S : List Nat} {w' : World} (t : Turned S w w') (hs : ∀ k, k ∈ S → k = ad ∨ k ∈ F ∨ k = x) : Below B w w' :=
  t.below (by have := (h.trn.lo p h.trn.pF); omega) (fun k hk => by
    rcases hs k hk with rfl | h1 | rfl
    · exact h.lo.1
    · exact (h.trn.lo k h1).1
    · exact h.lo.2)

theorem ad_pick (i : Nat) (t : Task) (pick r : Int) (n' made' tn' : Int) (U : List Task → Prop) (hp : -9223372036854775808 ≤ pick ∧ pick ≤ 9223372036854775807) (ht : ts[i]? = some t) (hn : 0 ≤ t.n ∧ t.n < 100)
    (hr : (readyOf ts)[placeOf pick (readyOf ts).length]? = some ((i : Int) + 1)) (h : Ad B w p F ts ad x ao len cap l n made tn)
    (hstep : ∀ w1, Ad B w1 p F ts ad x ao len cap l n made tn → Calls Try.prog 31 #[.agg #[t.fv]] w1 fun e w2 => e = .returned (.int .i64 r) ∧ ∃ F' us, Ad B w2 p F' us ad x ao len cap l n' made' tn' ∧ us[i]? = some t ∧ U us ∧ Below B w1 w2) :
    Calls Try.prog 18 #[.pointer (some ⟨p, 0, none⟩), .int .i64 pick] w fun e w' => e = .returned (.tuple #[.int .i64 ((i : Int) + 1), .bool true]) ∧
      ∃ F' us, Ad B w' p F' (us.set i { t with st := r, n := t.n + 1 }) ad x ao len cap l n' made' tn' ∧ U us ∧ Below B w w' := by
  refine (pick_core B w p F ts pick hp i t ht hr h.trn (fun r2 w2 => r2 = r ∧ ∃ F' us, Ad B w2 p F' us ad x ao len cap l n' made' tn' ∧ us[i]? = some t ∧ U us ∧ Below B w w2) ?_ ?_).mono ?_
  · intro w1 h1 hT
    refine (hstep w1 (h.same hT)).mono ?_
    rintro e w2 ⟨rfl, F', us, h2, h3, h4, h5⟩
    exact ⟨r, rfl, rfl, F', us, h2, h3, h4, (h.below hT (by simp)).trans h5⟩
  · rintro r2 w2 ⟨_, F', us, h2, h3, _⟩
    exact ⟨t.st, t.n, (h2.trn.task t (List.mem_of_getElem? h3)).1⟩
  · rintro e w' ⟨rfl, r2, s, m, w2, ⟨rfl, F', us, h2, h3, h4, h5⟩, hb, hb', hT⟩
    have hm := List.mem_of_getElem? h3
    have hb2 := (h2.trn.task t hm).1
    rw [hb] at hb2
    have hb3 : s = t.st ∧ m = t.n := by simpa [Task.cells, taken] using hb2
    obtain ⟨rfl, rfl⟩ := hb3
    have e1 : wrap64 (t.n + 1) = t.n + 1 := by unfold wrap64; omega
    rw [e1] at hb'
    have hnb : ∀ k, Aw B w2 k → k ∉ [t.b] := fun k hk e => (h2.trn.aw hk).2.1 t hm (by simpa using e)
    refine ⟨rfl, F', us, ⟨h2.trn.set h3 rfl (by rw [hb']; rfl) hT, ?_, h2.good.keep w2 w' tn' h2.told (fun k hk => hT.block k (h2.awx hk).1 (hnb k (h2.awx hk).2)), h.lo, h.hl⟩, h4, h5.trans (h2.below hT (fun k hk => .inr (.inl (by simp at hk; subst hk; exact (h2.trn.task t hm).2))))⟩
    rw [hT.block ad (lt_of_heap h2.adr) (hnb ad h2.ada)]
    exact h2.adr
end

section
variable {B : Nat} {w : World} {p : Nat} {F : List Nat} {ad x b1 b2 : Nat} {ao : Option Addr} {len cap : Nat} {l : List Int}
theorem adds_one (h : Ad B w p F [adT b1 ad 0 0] ad x ao len cap l 0 0 0) :
    Calls Try.prog 18 #[.pointer (some ⟨p, 0, none⟩), .int .i64 0] w fun e w' => e = .returned (.tuple #[.int .i64 1, .bool true]) ∧ ∃ F' b2, Ad B w' p F' [adT b1 ad 0 1, toT B b2 x ao len cap l 0 0] ad x ao len cap l 1 2 0 ∧ Below B w w' := by
  refine (ad_pick 0 (adT b1 ad 0 0) 0 0 1 2 0 (fun us => ∃ b2, us = [adT b1 ad 0 0, toT B b2 x ao len cap l 0 0]) (by omega) rfl (by simp [adT]) (by simp [readyOf, states, thatOf, adT, placeOf]) h ?_).mono ?_
  · intro w1 h1
    refine (take_adder ad w1 0 (fun w2 => ∃ F' us, Ad B w2 p F' us ad x ao len cap l 1 2 0 ∧ us[0]? = some (adT b1 ad 0 0) ∧ (∃ b2, us = [adT b1 ad 0 0, toT B b2 x ao len cap l 0 0]) ∧ Below B w1 w2) ?_).mono ?_
    · intro w2 hT
      refine (adder_one B w2 p F [adT b1 ad 0 0] ad x ao len cap l 0 0 rfl (h1.same hT)).mono ?_
      rintro e w3 ⟨rfl, F', b2, h2, h3⟩
      exact ⟨rfl, F', _, h2, rfl, ⟨b2, rfl⟩, (h1.below hT (by simp)).trans ((h1.same hT).below h3 (fun k hk => by rcases List.mem_cons.1 hk with rfl | hk; exact .inl rfl; exact .inr (.inl hk)))⟩
    · rintro e w2 ⟨rfl, h2⟩
      exact ⟨rfl, h2⟩
  · rintro e w' ⟨rfl, F', us, h2, ⟨b2, rfl⟩, h3⟩
    exact ⟨rfl, F', b2, h2, h3⟩

theorem adds_two (l0 : List Int) (hl0 : l = 1 :: l0) (h : Ad B w p F [adT b1 ad 0 1, toT B b2 x ao len cap l 0 0] ad x ao len cap l 1 2 0) :
    Calls Try.prog 18 #[.pointer (some ⟨p, 0, none⟩), .int .i64 1] w fun e w' => e = .returned (.tuple #[.int .i64 2, .bool true]) ∧ ∃ F', Ad B w' p F' [adT b1 ad 0 1, toT B b2 x ao len cap l 1 1] ad x ao len cap l 1 2 1 ∧ Below B w w' := by
  refine (ad_pick 1 (toT B b2 x ao len cap l 0 0) 1 1 1 2 1 (fun us => us = [adT b1 ad 0 1, toT B b2 x ao len cap l 0 0]) (by omega) rfl (by simp [toT]) (by simp [readyOf, states, thatOf, adT, toT, placeOf]) h ?_).mono ?_
  · intro w1 h1
    refine (h1.good.take w1 0 (by omega) (by omega) h1.told).mono ?_
    rintro e w2 ⟨rfl, h2, h3⟩
    have e1 : norm (tellOf l (0 : Int).toNat) = 1 := by subst hl0; rfl
    refine ⟨by rw [← e1], F, _, ⟨h1.trn.keep2 h3 (fun k hk => (h1.awx (by simp at hk; simp [hk])).2), ?_, h2, h.lo, h.hl⟩, rfl, rfl, h1.below h3 (fun k hk => .inr (.inr (by simpa using hk)))⟩
    rw [h3.block ad (lt_of_heap h1.adr) (by simp; exact fun e => h1.nex (k := x) (by simp) e.symm)]
    exact h1.adr
  · rintro e w' ⟨rfl, F', us, h2, rfl, h3⟩
    exact ⟨rfl, F', h2, h3⟩

theorem adds_three (h : Ad B w p F [adT b1 ad 0 1, toT B b2 x ao len cap l 1 1] ad x ao len cap l 1 2 1) :
    Calls Try.prog 18 #[.pointer (some ⟨p, 0, none⟩), .int .i64 0] w fun e w' => e = .returned (.tuple #[.int .i64 1, .bool true]) ∧ ∃ F', Ad B w' p F' [adT b1 ad 0 2, toT B b2 x ao len cap l 1 1] ad x ao len cap l 2 2 1 ∧ Below B w w' := by
  refine (ad_pick 0 (adT b1 ad 0 1) 0 0 2 2 1 (fun us => us = [adT b1 ad 0 1, toT B b2 x ao len cap l 1 1]) (by omega) rfl (by simp [adT]) (by simp [readyOf, states, thatOf, adT, toT, placeOf]) h ?_).mono ?_
  · intro w1 h1
    refine (take_adder ad w1 0 (fun w2 => ∃ F' us, Ad B w2 p F' us ad x ao len cap l 2 2 1 ∧ us[0]? = some (adT b1 ad 0 1) ∧ us = [adT b1 ad 0 1, toT B b2 x ao len cap l 1 1] ∧ Below B w1 w2) ?_).mono ?_
    · intro w2 hT
      refine (adder_two B w2 p F _ ad x ao len cap l 2 1 (h1.same hT)).mono ?_
      rintro e w3 ⟨rfl, h2, h3⟩
      exact ⟨rfl, F, _, h2, rfl, rfl, (h1.below hT (by simp)).trans ((h1.same hT).below h3 (fun k hk => .inl (by simpa using hk)))⟩
    · rintro e w2 ⟨rfl, h2⟩
      exact ⟨rfl, h2⟩
  · rintro e w' ⟨rfl, F', us, h2, rfl, h3⟩
    exact ⟨rfl, F', h2, h3⟩

theorem adds_four (h : Ad B w p F [adT b1 ad 0 2, toT B b2 x ao len cap l 1 1] ad x ao len cap l 2 2 1) :
    Calls Try.prog 18 #[.pointer (some ⟨p, 0, none⟩), .int .i64 0] w fun e w' => e = .returned (.tuple #[.int .i64 1, .bool true]) ∧ ∃ F', Ad B w' p F' [adT b1 ad 2 3, toT B b2 x ao len cap l 0 1] ad x ao len cap l 3 2 1 ∧ Below B w w' := by
  refine (ad_pick 0 (adT b1 ad 0 2) 0 2 3 2 1 (fun us => us = [adT b1 ad 0 2, toT B b2 x ao len cap l 0 1]) (by omega) rfl (by simp [adT]) (by simp [readyOf, states, thatOf, adT, toT, placeOf]) h ?_).mono ?_
  · intro w1 h1
    refine (take_adder ad w1 2 (fun w2 => ∃ F' us, Ad B w2 p F' us ad x ao len cap l 3 2 1 ∧ us[0]? = some (adT b1 ad 0 2) ∧ us = [adT b1 ad 0 2, toT B b2 x ao len cap l 0 1] ∧ Below B w1 w2) ?_).mono ?_
    · intro w2 hT
      have e1 : wakeAll [adT b1 ad 0 2, toT B b2 x ao len cap l 1 1] [2] = [adT b1 ad 0 2, toT B b2 x ao len cap l 0 1] := by simp [wakeAll, wake1, adT, toT, Task.woken]
      refine (adder_three B w2 p F _ ad x ao len cap l 1 (h1.same hT)).mono ?_
      rw [e1]
      rintro e w3 ⟨rfl, h2, h3⟩
      exact ⟨rfl, F, _, h2, rfl, rfl, (h1.below hT (by simp)).trans ((h1.same hT).below h3 (fun k hk => by rcases List.mem_cons.1 hk with rfl | hk; exact .inl rfl; exact .inr (.inl hk)))⟩
    · rintro e w2 ⟨rfl, h2⟩
      exact ⟨rfl, h2⟩
  · rintro e w' ⟨rfl, F', us, h2, rfl, h3⟩
    exact ⟨rfl, F', h2, h3⟩
end
end Go.Proofs.Ytihoffaolonfhaa

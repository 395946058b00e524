/-
  An object of package turns with tasks whose steps keep to their own memory ('Tur'): Pick, Wake and Add of it.
-/
import Derived.Test.YtopoklciglgkbaaTurnsTasks
namespace Go.Proofs.Ytopoklciglgkbaa
open Go.RowKit
set_option linter.unusedVariables false

/-- A block that no object of package turns has. -/
def Aw (B : Nat) (w : World) (k : Nat) : Prop := k < B ∨ ∃ c e fr, w.heap[k]? = some (.cells c e fr) ∧ e ≠ 58 ∧ e ≠ 64 ∧ e ≠ 67

/-- A task whose step keeps to its own memory. -/
structure Good (B : Nat) (t : Task) : Prop where
  sub : ∀ k, k ∈ t.S → k ∈ t.A
  keep : ∀ (w w' : World) n, t.D w n → (∀ k, k ∈ t.A → w'.heap[k]? = w.heap[k]?) → t.D w' n
  aw : ∀ w n, t.D w n → ∀ k, k ∈ t.A → k < w.heap.size ∧ Aw B w k
  take : ∀ w n, 0 ≤ n → n < 4611686018427387904 → t.D w n → Calls Try.prog 31 #[.agg #[t.fv]] w fun e w' => e = .returned (.int .i64 (norm (t.tell n))) ∧ t.D w' (n + 1) ∧ Turned t.S w w'

section
variable {B : Nat} {w : World} {p : Nat} {F : List Nat} {ts : List Task}
theorem Trn.aw (h : Trn B w p F ts) {k : Nat} (hk : Aw B w k) : k ≠ p ∧ (∀ t, t ∈ ts → k ≠ t.b) ∧ ∀ v, w.heap[p]? = some (.cells #[v] 58) → v.ownBlock ≠ some k := by
  rcases hk with hk | ⟨c, e, fr, h1, h2, h3, h4⟩
  · refine ⟨fun e => ?_, fun t ht e => ?_, fun v hv e => ?_⟩
    · have := (h.lo p h.pF).1; omega
    · have := (h.lo _ (h.task t ht).2).1; omega
    · obtain ⟨v', hv', h2, h3⟩ := h.head
      rw [hv'] at hv
      have e2 : v' = v := by simpa using hv
      subst e2
      have := (h.lo _ (h3 k e)).1
      omega
  · refine ⟨fun e => ?_, fun t ht e => ?_, fun v hv e => ?_⟩
    · obtain ⟨v', hv', _⟩ := h.head
      rw [e, hv'] at h1
      simp at h1
      exact h2 h1.2.1.symm
    · rw [e, (h.task t ht).1] at h1
      simp at h1
      exact h4 h1.2.1.symm
    · obtain ⟨v', hv', hr, _⟩ := h.head
      rw [hv'] at hv
      have e2 : v' = v := by simpa using hv
      subst e2
      obtain ⟨_, _, c', hc'⟩ := ownsRow_lt hr k e
      rw [hc'] at h1
      simp at h1
      exact h3 h1.2.1.symm

theorem Trn.keep2 (h : Trn B w p F ts) {S : List Nat} {w' : World} (hT : Turned S w w') (hS : ∀ k, k ∈ S → Aw B w k) : Trn B w' p F ts := by
  obtain ⟨v, h1, h2, h3⟩ := h.head
  refine ⟨⟨v, ?_, ownsRow_keep h2 (fun k e => hT.block k (ownsRow_lt h2 k e).2.1 (fun hm => (h.aw (hS k hm)).2.2 v h1 e)), h3⟩, h.pF, fun t ht => ⟨?_, (h.task t ht).2⟩, h.nodup, fun k hF => ⟨(h.lo k hF).1, Nat.lt_of_lt_of_le (h.lo k hF).2 hT.size⟩, h.room⟩
  · rw [hT.block p (h.lo p h.pF).2 (fun hm => (h.aw (hS p hm)).1 rfl)]
    exact h1
  · rw [hT.block t.b (h.ltb ht) (fun hm => (h.aw (hS _ hm)).2.1 t ht rfl)]
    exact (h.task t ht).1
theorem Trn.more (h : Trn B w p F ts) {k : Nat} (hk : B ≤ k ∧ k < w.heap.size) : Trn B w p (k :: F) ts := by
  obtain ⟨v, h1, h2, h3⟩ := h.head
  refine ⟨⟨v, h1, h2, fun j hj => List.mem_cons_of_mem _ (h3 j hj)⟩, List.mem_cons_of_mem _ h.pF, fun t ht => ⟨(h.task t ht).1, List.mem_cons_of_mem _ (h.task t ht).2⟩, h.nodup, fun j hj => ?_, h.room⟩
  rcases List.mem_cons.1 hj with rfl | hj
  · exact hk
  · exact h.lo j hj
end

structure Tur (B : Nat) (w : World) (p : Nat) (F : List Nat) (ts : List Task) : Prop where
  trn : Trn B w p F ts
  good : ∀ t, t ∈ ts → Good B t
  data : ∀ t, t ∈ ts → t.D w t.n
  aF : ∀ t, t ∈ ts → ∀ k, k ∈ t.A → k ∈ F ∨ k < B
  sF : ∀ t, t ∈ ts → ∀ k, k ∈ t.S → k ∈ F
  sep : ∀ (i j : Nat) t u, ts[i]? = some t → ts[j]? = some u → i ≠ j → ∀ k, k ∈ t.S → k ∉ u.A

section
variable {B : Nat} {w : World} {p : Nat} {F : List Nat} {ts : List Task}
theorem Tur.awA (h : Tur B w p F ts) {t : Task} (ht : t ∈ ts) {k : Nat} (hk : k ∈ t.A) : k < w.heap.size ∧ Aw B w k := (h.good t ht).aw w t.n (h.data t ht) k hk
theorem Tur.turned (h : Tur B w p F ts) {S : List Nat} {w' : World} (hT : Turned S w w') (hs : ∀ k, k ∈ F → k ∉ S) (hB : ∀ k, k ∈ S → B ≤ k) : Tur B w' p F ts := by
  refine ⟨h.trn.turned hT hs, h.good, fun t ht => (h.good t ht).keep w w' _ (h.data t ht) (fun k hk => hT.block k (h.awA ht hk).1 (fun hm => ?_)), h.aF, h.sF, h.sep⟩
  rcases h.aF t ht k hk with h1 | h1
  · exact hs k h1 hm
  · have := hB k hm; omega
theorem Tur.same (h : Tur B w p F ts) {w' : World} (hT : Turned [] w w') : Tur B w' p F ts := h.turned hT (by simp) (by simp)
theorem Tur.more (h : Tur B w p F ts) {k : Nat} (hk : B ≤ k ∧ k < w.heap.size) : Tur B w p (k :: F) ts :=
  ⟨h.trn.more hk, h.good, h.data, fun t ht j hj => (h.aF t ht j hj).imp (List.mem_cons_of_mem _) id, fun t ht j hj => List.mem_cons_of_mem _ (h.sF t ht j hj), h.sep⟩

theorem new_tur (B : Nat) (w : World) (hB : B ≤ w.heap.size) :
    Calls Try.prog 10 #[] w fun e w' => e = .returned (.pointer (some ⟨w.heap.size, 0, none⟩)) ∧ Tur B w' w.heap.size [w.heap.size] [] ∧ Turned [] w w' ∧ w'.heap.size = w.heap.size + 1 :=
  (new_turns B w hB).mono fun _ _ ⟨h1, h2, h3, h4⟩ => ⟨h1, ⟨h2, by simp, by simp, by simp, by simp, by simp⟩, h3, h4⟩

/-- How a task stands turns nothing of the rest. -/
def Alike (ts us : List Task) : Prop := ∀ (i : Nat) u, us[i]? = some u → ∃ t, ts[i]? = some t ∧ u = { t with st := u.st }

theorem Alike.refl (ts : List Task) : Alike ts ts := fun i u h => ⟨u, h, rfl⟩
theorem Alike.trans {ts us vs : List Task} (h : Alike ts us) (k : Alike us vs) : Alike ts vs := fun i v hv => by
  obtain ⟨u, h1, h2⟩ := k i v hv
  obtain ⟨t, h3, h4⟩ := h i u h1
  exact ⟨t, h3, by rw [h2, h4]⟩
theorem Tur.alike (h : Tur B w p F ts) {us : List Task} {w' : World} (hT : Trn B w' p F us) (ha : Alike ts us) {S : List Nat} (ht : Turned S w w') (hS : ∀ t, t ∈ ts → ∀ k, k ∈ t.A → k ∉ S) : Tur B w' p F us := by
  have hm : ∀ u, u ∈ us → ∃ t, t ∈ ts ∧ u = { t with st := u.st } := fun u hu => by
    obtain ⟨i, hi⟩ := List.mem_iff_getElem?.1 hu
    obtain ⟨t, h1, h2⟩ := ha i u hi
    exact ⟨t, List.mem_of_getElem? h1, h2⟩
  refine ⟨hT, fun u hu => ?_, fun u hu => ?_, fun u hu => ?_, fun u hu => ?_, fun i j u v hu hv hij => ?_⟩
  · obtain ⟨t, h1, h2⟩ := hm u hu
    have g := h.good t h1
    rw [h2]
    exact ⟨g.sub, g.keep, g.aw, g.take⟩
  · obtain ⟨t, h1, h2⟩ := hm u hu
    rw [h2]
    exact (h.good t h1).keep w w' t.n (h.data t h1) (fun k hk => ht.block k (h.awA h1 hk).1 (hS t h1 k hk))
  · obtain ⟨t, h1, h2⟩ := hm u hu
    rw [h2]
    exact h.aF t h1
  · obtain ⟨t, h1, h2⟩ := hm u hu
    rw [h2]
    exact h.sF t h1
  · obtain ⟨t, h1, h2⟩ := ha i u hu
    obtain ⟨t', h3, h4⟩ := ha j v hv
    rw [h2, h4]
    exact h.sep i j t t' h1 h3 hij

theorem alike_wake1 (ts : List Task) (k : Int) : Alike ts (wake1 ts k) := by
  intro i u hu
  unfold wake1 at hu
  split at hu
  · rename_i t ht
    split at hu
    · rw [List.getElem?_set] at hu
      split at hu
      · rename_i e
        split at hu
        · injection hu with hu
          rw [e] at ht
          exact ⟨t, ht, by rw [← hu]; rfl⟩
        · cases hu
      · exact ⟨u, hu, rfl⟩
    · exact ⟨u, hu, rfl⟩
  · exact ⟨u, hu, rfl⟩
theorem alike_wake (ts : List Task) (l : List Int) : Alike ts (wakeAll ts l) := by
  unfold wakeAll
  induction l generalizing ts with
  | nil => exact Alike.refl ts
  | cons k l ih => exact (alike_wake1 ts k).trans (ih (wake1 ts k))

theorem wake_tur (B : Nat) (w : World) (p : Nat) (F : List Nat) (ts : List Task) (ao : Option Addr) (len cap : Nat) (l : List Int) (hl : len ≤ 9223372036854775807) (hr : Rd w F ao len l) (h : Tur B w p F ts) :
    Calls Try.prog 12 #[.pointer (some ⟨p, 0, none⟩), .slice ao len cap] w fun e w' =>
      e = .returned (.int .i64 ((wakeNum ts l : Nat) : Int)) ∧ Tur B w' p F (wakeAll ts l) ∧ Turned F w w' :=
  (wake_any B w p F ts ao len cap l hl hr h.trn).mono fun _ _ ⟨h1, h2, h3⟩ => ⟨h1, h.alike h2 (alike_wake ts l) h3 (fun t ht k hk hm => by
    obtain ⟨u, hu, e⟩ := List.mem_map.1 hm
    exact (h.trn.aw (h.awA ht hk).2).2.1 u hu e.symm), h3.mono (fun k hk => by
    obtain ⟨u, hu, e⟩ := List.mem_map.1 hk
    rw [← e]
    exact (h.trn.task u hu).2)⟩

/-- The picked task: its place. -/
def pickOf (ts : List Task) (p : Int) : Option Nat := ((readyOf ts)[placeOf p (readyOf ts).length]?).map (fun x => (x - 1).toNat)
def pickNum (ts : List Task) (p : Int) : Int := match pickOf ts p with | some i => (i : Int) + 1 | none => 0
def pickTo (ts : List Task) (p : Int) : List Task := match pickOf ts p with | some i => (match ts[i]? with | some t => ts.set i t.adv | none => ts) | none => ts

theorem pickOf_some {ts : List Task} {p : Int} {i : Nat} (h : pickOf ts p = some i) : ∃ t, ts[i]? = some t ∧ t.st = 0 ∧ (readyOf ts)[placeOf p (readyOf ts).length]? = some ((i : Int) + 1) := by
  unfold pickOf at h
  obtain ⟨x, hx, rfl⟩ := Option.map_eq_some_iff.1 h
  obtain ⟨m, h1, h2⟩ := thatOf_get 0 (states ts) 0 _ x hx
  have e : (x - 1).toNat = m := by omega
  unfold states at h2
  rw [List.getElem?_map] at h2
  obtain ⟨t, ht, h3⟩ := Option.map_eq_some_iff.1 h2
  refine ⟨t, by rw [e]; exact ht, h3, ?_⟩
  rw [hx, e, h1]
  simp
theorem pickOf_none {ts : List Task} {p : Int} (h : pickOf ts p = none) : readyOf ts = [] := by
  unfold pickOf at h
  have h1 := List.getElem?_eq_none_iff.1 (Option.map_eq_none_iff.1 h)
  by_cases h0 : (readyOf ts).length = 0
  · exact List.eq_nil_of_length_eq_zero h0
  · have := placeOf_lt p (n := (readyOf ts).length) (by omega)
    omega

def Lim (N : Int) (ts : List Task) : Prop := ∀ t, t ∈ ts → 0 ≤ t.n ∧ t.n ≤ N

theorem pick_tur (B : Nat) (w : World) (p : Nat) (F : List Nat) (ts : List Task) (pick : Int) (hp : -9223372036854775808 ≤ pick ∧ pick ≤ 9223372036854775807) (N : Int) (hN : N < 4611686018427387904) (hlim : Lim N ts) (h : Tur B w p F ts) :
    Calls Try.prog 18 #[.pointer (some ⟨p, 0, none⟩), .int .i64 pick] w fun e w' =>
      e = .returned (.tuple #[.int .i64 (pickNum ts pick), .bool (pickOf ts pick).isSome]) ∧ Tur B w' p F (pickTo ts pick) ∧ Turned F w w' := by
  cases hpk : pickOf ts pick with
  | none =>
    refine (pick_none B w p F ts pick (pickOf_none hpk) h.trn).mono ?_
    rintro e w' ⟨rfl, hT⟩
    unfold pickNum pickTo
    rw [hpk]
    exact ⟨rfl, h.same hT, hT.mono (by simp)⟩
  | some i =>
    obtain ⟨t, ht, hst, hr⟩ := pickOf_some hpk
    have hm := List.mem_of_getElem? ht
    have hg := h.good t hm
    have htS : ∀ k, k ∈ t.S → k < w.heap.size ∧ Aw B w k := fun k hk => h.awA hm (hg.sub k hk)
    refine (pick_core B w p F ts pick hp i t ht hr h.trn (fun r w2 => r = norm (t.tell t.n) ∧ t.D w2 (t.n + 1) ∧ Turned t.S w w2) ?_ ?_).mono ?_
    · intro w1 h1 hT1
      have hd1 := (h.same hT1).data t hm
      refine (hg.take w1 t.n (hlim t hm).1 (by have := (hlim t hm).2; omega) hd1).mono ?_
      rintro e w2 ⟨rfl, h2, h3⟩
      exact ⟨_, rfl, rfl, h2, (hT1.mono (by simp)).trans h3⟩
    · rintro r w2 ⟨_, _, hT⟩
      refine ⟨t.st, t.n, ?_⟩
      rw [hT.block t.b (h.trn.ltb hm) (fun hk => (h.trn.aw (htS _ hk).2).2.1 t hm rfl)]
      exact (h.trn.task t hm).1
    · rintro e w' ⟨rfl, r, s, n, w2, ⟨rfl, hd, hT⟩, hb, hb', hTb⟩
      have hnn := (hlim t hm)
      have h2 : Trn B w2 p F ts := h.trn.keep2 hT (fun k hk => (htS k hk).2)
      have hb2 := (h2.task t hm).1
      rw [hb] at hb2
      have hb3 : s = t.st ∧ n = t.n := by simpa [Task.cells, taken] using hb2
      obtain ⟨rfl, rfl⟩ := hb3
      have e1 : wrap64 (t.n + 1) = t.n + 1 := by unfold wrap64; omega
      rw [e1] at hb'
      unfold pickNum pickTo
      rw [hpk]
      simp only [ht]
      have h3 : Trn B w' p F (ts.set i t.adv) := h2.set ht rfl (by rw [hb']; rfl) hTb
      have awb : ∀ u, u ∈ ts → ∀ k, k ∈ u.A → k ≠ t.b := fun u hu k hk => (h.trn.aw (h.awA hu hk).2).2.1 t hm
      -- the others' data
      have hoth : ∀ (j : Nat) u, ts[j]? = some u → j ≠ i → u.D w' u.n := fun j u hu hj => by
        have hmu := List.mem_of_getElem? hu
        refine (h.good u hmu).keep w w' _ (h.data u hmu) (fun k hk => ?_)
        have hlt := (h.awA hmu hk).1
        rw [hTb.block k (Nat.lt_of_lt_of_le hlt hT.size) (by simp; exact awb u hmu k hk), hT.block k hlt (fun hs => h.sep i j t u ht hu (Ne.symm hj) k hs hk)]
      have hown : t.D w' (t.n + 1) := hg.keep w2 w' _ hd (fun k hk => hTb.block k (hg.aw w2 _ hd k hk).1 (by simp; exact awb t hm k hk))
      have hcase : ∀ (j : Nat) u, (ts.set i t.adv)[j]? = some u → (j = i ∧ u = t.adv) ∨ (j ≠ i ∧ ts[j]? = some u) := fun j u hu => by
        rw [List.getElem?_set] at hu
        split at hu
        · rename_i e
          split at hu
          · injection hu with hu
            exact .inl ⟨e.symm, hu.symm⟩
          · cases hu
        · rename_i e
          exact .inr ⟨fun e' => e e'.symm, hu⟩
      have hcm : ∀ u, u ∈ ts.set i t.adv → u = t.adv ∨ u ∈ ts := fun u hu => by
        obtain ⟨j, hj⟩ := List.mem_iff_getElem?.1 hu
        rcases hcase j u hj with ⟨_, e⟩ | ⟨_, e⟩
        · exact .inl e
        · exact .inr (List.mem_of_getElem? e)
      refine ⟨rfl, ⟨h3, ?_, ?_, ?_, ?_, ?_⟩, ?_⟩
      · intro u hu
        rcases hcm u hu with rfl | hu
        · exact ⟨hg.sub, hg.keep, hg.aw, hg.take⟩
        · exact h.good u hu
      · intro u hu
        obtain ⟨j, hj⟩ := List.mem_iff_getElem?.1 hu
        rcases hcase j u hj with ⟨_, rfl⟩ | ⟨e1, e2⟩
        · exact hown
        · exact hoth j u e2 e1
      · intro u hu
        rcases hcm u hu with rfl | hu
        · exact h.aF t hm
        · exact h.aF u hu
      · intro u hu
        rcases hcm u hu with rfl | hu
        · exact h.sF t hm
        · exact h.sF u hu
      · intro a b u v hu hv hab
        rcases hcase a u hu with ⟨rfl, rfl⟩ | ⟨_, hu2⟩
        · rcases hcase b v hv with ⟨rfl, rfl⟩ | ⟨_, hv2⟩
          · exact absurd rfl hab
          · exact h.sep a b t v ht hv2 hab
        · rcases hcase b v hv with ⟨rfl, rfl⟩ | ⟨_, hv2⟩
          · exact h.sep a b u t hu2 ht hab
          · exact h.sep a b u v hu2 hv2 hab
      · exact (hT.mono (h.sF t hm)).trans (hTb.mono (fun k hk => by simp at hk; subst hk; exact (h.trn.task t hm).2))

theorem add_tur (B : Nat) (w : World) (p : Nat) (F : List Nat) (ts : List Task) (fn : Fn) (first caps : Array Value) (S A : List Nat) (D : World → Int → Prop) (tell : Int → Int) (hl : ts.length < 128) (h : Tur B w p F ts)
    (hg : ∀ b, Good B ⟨b, .func fn first caps, S, A, D, tell, 0, 0⟩) (hd : D w 0) (haF : ∀ k, k ∈ A → k ∈ F ∨ k < B) (hsF : ∀ k, k ∈ S → k ∈ F) (hsep : ∀ t, t ∈ ts → (∀ k, k ∈ t.S → k ∉ A) ∧ (∀ k, k ∈ S → k ∉ t.A)) :
    Calls Try.prog 13 #[.pointer (some ⟨p, 0, none⟩), .func fn first caps] w fun e w' =>
      e = .returned (.tuple #[.int .i64 ((ts.length : Int) + 1), .int .i64 0]) ∧ ∃ F', Tur B w' p F' (ts ++ [⟨w.heap.size, .func fn first caps, S, A, D, tell, 0, 0⟩]) ∧ (∀ k, k ∈ F → k ∈ F') ∧ (∀ k, k ∈ F' → k ∈ F ∨ w.heap.size ≤ k ∨ ∃ c, w.heap[k]? = some (.cells c 64 (0, 0))) ∧ Turned F w w' ∧ ∀ k, k < w.heap.size → Aw B w k → w'.heap[k]? = w.heap[k]? := by
  refine (add_ok B w p F ts fn first caps S A D tell hl h.trn).mono ?_
  rintro e w' ⟨rfl, F', h1, h2, h3, M, hM, hM2⟩
  have hnew := hg w.heap.size
  have hawM : ∀ k, Aw B w k → k ∉ M := by
    intro k hk hm
    obtain ⟨hF, c, e, h4, h5⟩ := hM2 k hm
    rcases hk with hk | ⟨c', e', fr, h6, h7, h8, _⟩
    · have := (h.trn.lo k hF).1; omega
    · rw [h4] at h6
      simp at h6
      rcases h5 with rfl | rfl
      · exact h7 h6.2.1.symm
      · exact h8 h6.2.1.symm
  have hd' : D w' 0 := hnew.keep w w' 0 hd (fun k hk => hM.block k (hnew.aw w 0 hd k hk).1 (hawM k (hnew.aw w 0 hd k hk).2))
  refine ⟨rfl, F', ⟨h1, ?_, ?_, ?_, ?_, ?_⟩, h2, h3, hM.mono (fun k hk => (hM2 k hk).1), fun k h4 h5 => hM.block k h4 (hawM k h5)⟩
  · intro t ht
    rcases List.mem_append.1 ht with ht | ht
    · exact h.good t ht
    · simp at ht; subst ht; exact hnew
  · intro t ht
    rcases List.mem_append.1 ht with ht | ht
    · exact (h.good t ht).keep w w' _ (h.data t ht) (fun k hk => hM.block k (h.awA ht hk).1 (hawM k (h.awA ht hk).2))
    · simp at ht; subst ht; exact hd'
  · intro t ht k hk
    rcases List.mem_append.1 ht with ht | ht
    · exact (h.aF t ht k hk).imp (h2 k) id
    · simp at ht; subst ht; exact (haF k hk).imp (h2 k) id
  · intro t ht k hk
    rcases List.mem_append.1 ht with ht | ht
    · exact h2 k (h.sF t ht k hk)
    · simp at ht; subst ht; exact h2 k (hsF k hk)
  · intro i j t u ht hu hij k hk
    rw [List.getElem?_append] at ht hu
    split at ht
    · split at hu
      · exact h.sep i j t u ht hu hij k hk
      · have := List.mem_of_getElem? hu
        simp at this
        subst this
        exact (hsep t (List.mem_of_getElem? ht)).1 k hk
    · have := List.mem_of_getElem? ht
      simp at this
      subst this
      split at hu
      · exact (hsep u (List.mem_of_getElem? hu)).2 k hk
      · have h5 := (List.getElem?_eq_some_iff.1 ht).1
        have h6 := (List.getElem?_eq_some_iff.1 hu).1
        simp at h5 h6
        omega
end
end Go.Proofs.Ytopoklciglgkbaa

/-
  Offers where one item lies in the last worker's deque, who doesn't offer: none ends, each that goes on waits at last. No Go is walked here (but for the array of offers).
-/
import Derived.Test.YtokabpgdklihlaaQuietCrew
namespace Go.Proofs.Ytokabpgdklihlaa
open Go.RowKit

/-- The words: the count, and the last deque's bottom and item. -/
def workL (n : Nat) (c : Int) : List Int := ((allL c).set (1 + 20 * (n - 1) + 4) 7).set (1 + 20 * (n - 1) + 1) 1
theorem cnt_work (n : Nat) (c : Int) : cnt (allQ n) (workL n c) = c := by
  unfold cnt workL allQ allL
  simp
theorem set_work (n : Nat) (c c' : Int) : (workL n c).set 0 c' = workL n c' := by
  unfold workL allL
  rw [List.set_comm _ _ (by omega), List.set_comm _ _ (by omega)]
  rfl
theorem rd_work (n k : Nat) (c : Int) (hn : 2 ≤ n ∧ n ≤ 4) (h : k < n) : rd (cOf (allQ n) k) (workL n c) 0 = 0 ∧ rd (cOf (allQ n) k) (workL n c) 1 = (if k = n - 1 then 1 else 0) ∧ rd (cOf (allQ n) k) (workL n c) 3 = 0 := by
  rw [cOf_all n k h]
  have h12 : n = 2 ∨ n = 3 ∨ n = 4 := by omega
  rcases h12 with rfl | rfl | rfl
  · have : k = 0 ∨ k = 1 := by omega
    rcases this with rfl | rfl <;> exact ⟨rfl, rfl, rfl⟩
  · have : k = 0 ∨ k = 1 ∨ k = 2 := by omega
    rcases this with rfl | rfl | rfl <;> exact ⟨rfl, rfl, rfl⟩
  · have : k = 0 ∨ k = 1 ∨ k = 2 ∨ k = 3 := by omega
    rcases this with rfl | rfl | rfl | rfl <;> exact ⟨rfl, rfl, rfl⟩

/-- What pushing 7 alone comes to. -/
theorem push_work (n : Nat) (hn : 2 ≤ n ∧ n ≤ 4) : (goes ⟨1 + 20 * (n - 1), 4, 4⟩ 12 (allL 0, opNew .pushReadBottom 7)).1 = workL n 0 ∧ (goes ⟨1 + 20 * (n - 1), 4, 4⟩ 12 (allL 0, opNew .pushReadBottom 7)).2.done = true := by
  have h12 : n = 2 ∨ n = 3 ∨ n = 4 := by omega
  rcases h12 with rfl | rfl | rfl <;> exact ⟨rfl, rfl⟩
theorem items_work (n : Nat) (hn : 2 ≤ n ∧ n ≤ 4) (c : Int) : (itemsOf ⟨1 + 20 * (n - 1), 4, 4⟩ (workL n c)).length = 1 := by
  have h12 : n = 2 ∨ n = 3 ∨ n = 4 := by omega
  rcases h12 with rfl | rfl | rfl <;> rfl

/-- Is it counted? -/
def act (o : OfS) : Int := if o.state = 0 ∧ o.at_ ≠ .countIn then 1 else 0
theorem act_vals (o : OfS) : act o = 0 ∨ act o = 1 := by unfold act; split <;> simp
theorem act_new : act ofNew = 0 := by simp [act, ofNew]

structure WOk (n : Nat) (o : OfS) : Prop where
  top : o.top = 0
  state : o.state = 0 ∨ o.state = 1
  ok : QOk (allQ n) o
  last : o.at_ = .readStack → o.k + 1 < n

/-- The steps that an offer has left. -/
def left (n : Nat) (o : OfS) : Nat :=
  if o.state = 1 then 0 else
  match o.at_ with
  | .countIn => 3 * (n - 1) + 5
  | .readCount => 3 * (n - 1) + 4
  | .readTop => 3 * (n - 1 - o.k) + 3
  | .readBottom => 3 * (n - 1 - o.k) + 2
  | .readStack => 3 * (n - 1 - o.k) + 1
  | .countOut => 1

theorem left_le (n : Nat) (hn : n ≤ 4) (o : OfS) : left n o ≤ 14 := by
  obtain ⟨at_, st, k, t⟩ := o
  unfold left
  split
  · omega
  · cases at_ <;> simp <;> omega

theorem wok_new (n : Nat) : WOk n ofNew := ⟨rfl, .inl rfl, trivial, fun h => by simp [ofNew] at h⟩

theorem work_step (n : Nat) (hn : 2 ≤ n ∧ n ≤ 4) (c : Int) (hc : c ≠ n) (o : OfS) (h : WOk n o) :
    ∃ o', stepQ (allQ n) (workL n c) o = (workL n (c + act o' - act o), o') ∧ WOk n o' ∧ (o.state = 0 → left n o' + 1 = left n o) := by
  obtain ⟨at_, st, k, t⟩ := o
  obtain ⟨htop, hst, hok, hlast⟩ := h
  simp only at htop hst
  subst htop
  rcases hst with rfl | rfl
  · cases at_
    case countIn =>
      refine ⟨⟨.readCount, 0, k, 0⟩, ?_, ⟨rfl, .inl rfl, trivial, by simp⟩, fun _ => by simp [left]⟩
      have e : stepQ (allQ n) (workL n c) ⟨.countIn, 0, k, 0⟩ = ((workL n c).set 0 (cnt (allQ n) (workL n c) + 1), ⟨.readCount, 0, k, 0⟩) := rfl
      rw [e, cnt_work n, set_work]
      simp [act]
    case countOut =>
      refine ⟨⟨.countOut, 1, k, 0⟩, ?_, ⟨rfl, .inr rfl, trivial, by simp⟩, fun _ => by simp [left]⟩
      have e : stepQ (allQ n) (workL n c) ⟨.countOut, 0, k, 0⟩ = ((workL n c).set 0 (cnt (allQ n) (workL n c) - 1), ⟨.countOut, 1, k, 0⟩) := rfl
      rw [e, cnt_work n, set_work]
      simp [act]
    case readCount =>
      refine ⟨⟨.readTop, 0, 0, 0⟩, ?_, ⟨rfl, .inl rfl, by show 0 < (csTo n).length; rw [csTo_length]; omega, by simp⟩, fun _ => by simp [left]⟩
      have e : ¬ (0 = (allQ n).cs.length) := by show ¬ (0 = (csTo n).length); rw [csTo_length]; omega
      have e2 : ¬ (c = ((allQ n).n : Int)) := hc
      simp only [stepQ, cnt_work n, lookQ, if_neg e]
      simp [e2, act]
    case readTop =>
      have hk : k < n := by have h : k < (csTo n).length := hok; rwa [csTo_length] at h
      refine ⟨⟨.readBottom, 0, k, 0⟩, ?_, ⟨rfl, .inl rfl, hok, by simp⟩, fun _ => by simp [left]⟩
      simp [stepQ, act, (rd_work n k c hn hk).1]
    case readBottom =>
      have hk : k < n := by have h : k < (csTo n).length := hok; rwa [csTo_length] at h
      by_cases hkn : k = n - 1
      · refine ⟨⟨.countOut, 0, k, 0⟩, ?_, ⟨rfl, .inl rfl, trivial, by simp⟩, fun _ => by simp [left]; omega⟩
        have e := (rd_work n k c hn hk).2.1
        rw [if_pos hkn] at e
        simp [stepQ, act, e]
      · refine ⟨⟨.readStack, 0, k, 0⟩, ?_, ⟨rfl, .inl rfl, hok, fun _ => by show k + 1 < n; omega⟩, fun _ => by simp [left]⟩
        simp [stepQ, act, (rd_work n k c hn hk).2.1, hkn]
    case readStack =>
      have hk : k < n := by have h : k < (csTo n).length := hok; rwa [csTo_length] at h
      have hk1 : k + 1 < n := hlast rfl
      refine ⟨⟨.readTop, 0, k + 1, 0⟩, ?_, ⟨rfl, .inl rfl, by show k + 1 < (csTo n).length; rw [csTo_length]; omega, by simp⟩, fun _ => by simp [left]; omega⟩
      have e : ¬ (k + 1 = (allQ n).cs.length) := by show ¬ (k + 1 = (csTo n).length); rw [csTo_length]; omega
      simp only [stepQ, (rd_work n k c hn hk).2.2, lookQ, if_neg e]
      simp [act]
  · refine ⟨⟨at_, 1, k, 0⟩, ?_, ⟨rfl, .inr rfl, hok, hlast⟩, fun h => by simp at h⟩
    simp [stepQ]

structure WInv (n : Nat) (c : Int) (A : Nat → OfS) : Prop where
  sum : c = act (A 0) + act (A 1) + act (A 2) + act (A 3)
  ok : ∀ j, j ≤ 3 → WOk n (A j)
  rest : ∀ j, n - 1 ≤ j → j ≤ 3 → act (A j) = 0

theorem WInv.lt {n : Nat} {c : Int} {A : Nat → OfS} (h : WInv n c A) (hn : 2 ≤ n ∧ n ≤ 4) : 0 ≤ c ∧ c < n := by
  have s := h.sum
  have v0 := act_vals (A 0)
  have v1 := act_vals (A 1)
  have v2 := act_vals (A 2)
  have v3 := act_vals (A 3)
  have r1 := h.rest 1
  have r2 := h.rest 2
  have r3 := h.rest 3
  omega

theorem WInv.step {n : Nat} {c : Int} {A : Nat → OfS} (h : WInv n c A) (hn : 2 ≤ n ∧ n ≤ 4) (i : Nat) (hi : i < n - 1) :
    ∃ c' o', stepQ (allQ n) (workL n c) (A i) = (workL n c', o') ∧ WInv n c' (updo A i o') ∧ o'.state ≠ 2 ∧ ((A i).state = 0 → left n o' + 1 = left n (A i)) := by
  have hlt := h.lt hn
  obtain ⟨o', h1, h2, h3⟩ := work_step n hn c (by omega) (A i) (h.ok i (by omega))
  refine ⟨_, o', h1, ⟨?_, fun j hj => ?_, fun j hj hj3 => ?_⟩, by rcases h2.state with e | e <;> omega, h3⟩
  · have s := h.sum
    have i4 : i < 4 := by omega
    match i, i4 with
    | 0, _ => simp [updo]; omega
    | 1, _ => simp [updo]; omega
    | 2, _ => simp [updo]; omega
    | 3, _ => simp [updo]; omega
  · unfold updo
    split
    · exact h2
    · exact h.ok j hj
  · unfold updo
    rw [if_neg (by omega)]
    exact h.rest j hj hj3

/-- A new offer in the place of one that is not under way. -/
theorem WInv.new {n : Nat} {c : Int} {A : Nat → OfS} (h : WInv n c A) (i : Nat) (hi : i ≤ 3) (ha : act (A i) = 0) : WInv n c (updo A i ofNew) := by
  have e := act_new
  refine ⟨?_, fun j hj => ?_, fun j hj hj3 => ?_⟩
  · have s := h.sum
    have i4 : i < 4 := by omega
    match i, i4 with
    | 0, _ => simp [updo]; omega
    | 1, _ => simp [updo]; omega
    | 2, _ => simp [updo]; omega
    | 3, _ => simp [updo]; omega
  · unfold updo
    split
    · exact wok_new n
    · exact h.ok j hj
  · unfold updo
    split
    · exact e
    · exact h.rest j hj hj3

theorem winv_new (n : Nat) : WInv n 0 (fun _ => ofNew) := ⟨by simp [act_new], fun _ _ => wok_new n, fun _ _ _ => act_new⟩

/-- Behind a step of an operation of one of the deques. -/
theorem Sh.opd {w w' : World} {a p q b : Nat} {ds : List Nat} {Q : QC} {l l' : List Int} {s s' : Int} {c : Array Value} (h : Sh w a p q ds Q l s) (ho : OpR w b c) (m : Mem w' p q l' s') (hl : l'.length = l.length) (t : Turned [p, q, b] w w') : Sh w' a p q ds Q l' s' := by
  have hh : w.heap[b]? = some (.cells c 84) := ho
  refine ⟨by rw [t.block a h.lta (by simp; exact ⟨h.nep, h.neq, ne_of_type h.head hh (by decide)⟩)]; exact h.head, by rw [hl]; exact h.cell, by rw [hl]; exact h.most, h.n, h.len, m, fun i d hi => ?_⟩
  have hd := h.dq i d hi
  exact ⟨hd.ne, hd.cap, hd.over, by rw [hl]; exact hd.room, by rw [hl]; exact hd.most, by rw [t.block d hd.ltd (by simp; exact ⟨hd.ne.1, hd.ne.2, ne_of_type hd.head hh (by decide)⟩)]; exact hd.head, m⟩

/-- 7 is pushed, and run to its end. -/
theorem run_work (w : World) (a p q b d m k : Nat) (ds : List Nat) (hkm : k = m + 1) (hk : 2 ≤ k ∧ k ≤ 4) (h : Sh w a p q ds (allQ k) (allL 0) 0) (hd : ds[m]? = some d) (ho : OpB w b d (opNew .pushReadBottom 7)) {v : Value} (hP : PRow 36 w v ds) :
    Calls Try.prog 13 #[.pointer (some ⟨d, 0, none⟩), .slice (some ⟨w.heap.size, 0, none⟩) 1 1] (w.alloc (.cells #[.pointer (some ⟨b, 0, none⟩)] 41)) fun e w' => (∃ n, e = .returned (.int .i64 n)) ∧ Sx w' a p q ds (allQ k) (workL k 0) ∧ PRow 36 w' v ds ∧ Turned [p, q, b] (w.alloc (.cells #[.pointer (some ⟨b, 0, none⟩)] 41)) w' := by
  have t0 : Turned [] w (w.alloc (.cells #[.pointer (some ⟨b, 0, none⟩)] 41)) := (Turned.refl _ _).alloc _
  have hA := h.turned t0 (by simp) (by simp) (by simp) (by simp)
  have hoA := ho.turned t0 (by simp)
  have hDq := hA.dq m d hd
  have hp := push_work k hk
  rw [show k - 1 = m by omega] at hp
  rw [cOf_all k m (by omega)] at hDq
  have hob : (w.alloc (.cells #[.pointer (some ⟨b, 0, none⟩)] 41)).heap[b]? = some (.cells (opCells d (opNew .pushReadBottom 7)) 84) := hoA
  refine (run_one (w.alloc (.cells #[.pointer (some ⟨b, 0, none⟩)] 41)) d p q b ⟨1 + 20 * m, 4, 4⟩ (allL 0) 0 (opNew .pushReadBottom 7) w.heap.size 1 12 (by omega) 1000 (by omega) (fit_new (.inl rfl) ?_ ?_) hp.2 (by rw [cell_of_heap (heap_alloc_new _ _)]; rfl) ⟨ne_of_type hob hDq.head (by decide), ne_of_type hob hA.mem.head (by decide), ne_of_type hob hA.mem.row (by decide)⟩ hDq hoA).mono ?_
  · have := rd_all k m 0 0 (by omega); rw [cOf_all k m (by omega)] at this; rw [this]; omega
  · have := rd_all k m 1 0 (by omega); rw [cOf_all k m (by omega)] at this; rw [this]; omega
  · rintro e w' ⟨h1, ⟨s', h2⟩, h3, h4⟩
    rw [hp.1] at h2
    refine ⟨h1, ⟨s', hA.opd hoA h2.mem (by simp [workL]) h4⟩, (hP.keep t0 (by simp)).keep h4 (fun k hk => ?_), h4⟩
    simp at hk
    rcases hk with rfl | rfl | rfl
    · exact ⟨_, _, _, hA.mem.head, by decide⟩
    · exact ⟨_, _, _, hA.mem.row, by decide⟩
    · exact ⟨_, _, _, hob, by decide⟩

/-- The array of four offers: block g. -/
def Ar4 (w : World) (g : Nat) (xs : Nat → Option Nat) : Prop := w.heap[g]? = some (.cells #[pv (xs 0), pv (xs 1), pv (xs 2), pv (xs 3)] 50)
def updx (xs : Nat → Option Nat) (i : Nat) (x : Option Nat) : Nat → Option Nat := fun k => if k = i then x else xs k

section
variable {W0 : Nat} {w w' : World} {a p q g : Nat} {ds : List Nat} {Q : QC} {l : List Int} {A : Nat → OfS} {xs : Nat → Option Nat}
theorem Ar4.at (h : Ar4 w g xs) (i : Nat) (hi : i ≤ 3) : w.cell? ⟨g, i, none⟩ = some (pv (xs i)) := by
  rw [cell_of_heap h]
  match i, hi with
  | 0, _ => rfl
  | 1, _ => rfl
  | 2, _ => rfl
  | 3, _ => rfl
theorem Ar4.fz (h : Ar4 w g xs) (i : Nat) : w.frozen? ⟨g, i, none⟩ = false := by
  unfold Ar4 at h
  simp [World.frozen?, h]
theorem Ar4.lt (h : Ar4 w g xs) : g < w.heap.size := lt_of_heap h
theorem Ar4.turned (h : Ar4 w g xs) {S : List Nat} (t : Turned S w w') (hg : g ∉ S) : Ar4 w' g xs := by
  unfold Ar4
  rw [t.block g h.lt hg]
  exact h
theorem Ar4.set (h : Ar4 w g xs) (i : Nat) (hi : i ≤ 3) (x : Option Nat) : Ar4 (w.setCell ⟨g, i, none⟩ (pv x)) g (updx xs i x) := by
  unfold Ar4
  rw [heap_setCell_at _ _ _ _ _ _ h]
  match i, hi with
  | 0, _ => rfl
  | 1, _ => rfl
  | 2, _ => rfl
  | 3, _ => rfl

/-- The array's offers. -/
structure Wfs (W0 : Nat) (w : World) (g a : Nat) (ds : List Nat) (xs : Nat → Option Nat) (A : Nat → OfS) : Prop where
  ar : Ar4 w g xs
  of_ : ∀ (i b : Nat), i ≤ 3 → xs i = some b → OfB w b a ds (A i)
  nd : ∀ (i j b : Nat), i ≤ 3 → j ≤ 3 → xs i = some b → xs j = some b → i = j
  lo : ∀ (i b : Nat), i ≤ 3 → xs i = some b → W0 ≤ b
  no : ∀ i, i ≤ 3 → xs i = none → A i = ofNew
  log : W0 ≤ g

theorem Wfs.keep0 (h : Wfs W0 w g a ds xs A) (t : Turned [] w w') : Wfs W0 w' g a ds xs A :=
  ⟨h.ar.turned t (by simp), fun i b hi hb => (h.of_ i b hi hb).turned t (by simp) (by simp), h.nd, h.lo, h.no, h.log⟩

theorem Wfs.step (h : Wfs W0 w g a ds xs A) (hs : Sx w a p q ds Q l) {i b : Nat} (hi : i ≤ 3) (hb : xs i = some b) {o' : OfS} (ho : OfB w' b a ds o') (t : Turned [p, q, b] w w') : Wfs W0 w' g a ds xs (updo A i o') := by
  have hty := hs.types (h.of_ i b hi hb)
  refine ⟨h.ar.turned t (fun hg => ?_), fun j c hj hc => ?_, h.nd, h.lo, fun j hj hn => ?_, h.log⟩
  · obtain ⟨c, e, fr, h1, h2⟩ := hty g hg
    exact ne_of_type h1 h.ar (by rcases h2 with rfl | rfl | rfl <;> decide) rfl
  · by_cases hji : j = i
    · subst hji
      rw [hb] at hc
      cases hc
      simpa [updo] using ho
    · have e : updo A i o' j = A j := by simp [updo, hji]
      rw [e]
      exact OfB.other hs (h.of_ i b hi hb) (h.of_ j c hj hc) (fun e => hji (h.nd j i c hj hi hc (by rw [e]; exact hb))) t
  · have hji : j ≠ i := by rintro rfl; rw [hb] at hn; cases hn
    have e : updo A i o' j = A j := by simp [updo, hji]
    rw [e]
    exact h.no j hj hn

/-- A new offer in one's place. -/
theorem Wfs.new (h : Wfs W0 w g a ds xs A) {i b : Nat} (hi : i ≤ 3) (t : Turned [] w w') (ho : OfB w' b a ds ofNew) (hb : w.heap.size ≤ b) (hW : W0 ≤ w.heap.size) :
    Wfs W0 (w'.setCell ⟨g, i, none⟩ (.pointer (some ⟨b, 0, none⟩))) g a ds (updx xs i (some b)) (updo A i ofNew) ∧ Turned [g] w (w'.setCell ⟨g, i, none⟩ (.pointer (some ⟨b, 0, none⟩))) := by
  have h1 := h.keep0 t
  have ts : Turned [g] w' (w'.setCell ⟨g, i, none⟩ (.pointer (some ⟨b, 0, none⟩))) := (Turned.refl _ _).setCell (by simp) _
  have hS : ∀ k, k ∈ [g] → NoRow w' k := fun k hk => by simp at hk; subst hk; exact noRow h1.ar (by decide)
  have hng : ∀ {c : Nat} {o : OfS}, OfB w' c a ds o → c ∉ [g] := fun {c o} hc => by
    obtain ⟨cc, hc⟩ := hc.type
    simp
    exact ne_of_type hc h1.ar (by decide)
  have hlt : ∀ j c, j ≤ 3 → xs j = some c → c < b := fun j c hj hc => Nat.lt_of_lt_of_le (h.of_ j c hj hc).lt hb
  refine ⟨⟨h1.ar.set i hi (some b), fun j c hj hc => ?_, fun j k c hj hk hjc hkc => ?_, fun j c hj hc => ?_, fun j hj hn => ?_, h.log⟩, (t.mono (by simp)).trans ts⟩
  · unfold updx at hc
    split at hc
    · rename_i e
      cases hc
      subst e
      simpa [updo] using ho.turned ts (hng ho) hS
    · rename_i e
      have e2 : updo A i ofNew j = A j := by simp [updo, e]
      rw [e2]
      exact (h1.of_ j c hj hc).turned ts (hng (h1.of_ j c hj hc)) hS
  · unfold updx at hjc hkc
    split at hjc <;> split at hkc
    · omega
    · cases hjc; have := hlt k _ hk hkc; omega
    · cases hkc; have := hlt j _ hj hjc; omega
    · exact h.nd j k c hj hk hjc hkc
  · unfold updx at hc
    split at hc
    · cases hc; omega
    · exact h.lo j c hj hc
  · unfold updx at hn
    split at hn
    · cases hn
    · rename_i e
      have e2 : updo A i ofNew j = A j := by simp [updo, e]
      rw [e2]
      exact h.no j hj hn
end

/-- All of it: the count and the deques, the row of deques, the array of offers, what they hold. -/
structure WSt (W0 w : World) (gg a p q g k cg : Nat) (ds : List Nat) (xs : Nat → Option Nat) (A : Nat → OfS) (c : Int) : Prop where
  tu : Turned [] W0 w
  sx : Sx w a p q ds (allQ k) (workL k c)
  pr : PRow 36 w (.slice (some ⟨g, 0, none⟩) k cg) ds
  wf : Wfs W0.heap.size w gg a ds xs A
  inv : WInv k c A
  lo : W0.heap.size ≤ p ∧ W0.heap.size ≤ q

section
variable {W0 w w' : World} {gg a p q g k cg : Nat} {ds : List Nat} {xs : Nat → Option Nat} {A : Nat → OfS} {c : Int}
/-- A step of an offer. -/
theorem WSt.step (h : WSt W0 w gg a p q g k cg ds xs A c) (hk : 2 ≤ k ∧ k ≤ 4) {i b : Nat} (hi : i < k - 1) (hb : xs i = some b) :
    ∃ c' o', (o'.state ≠ 2 ∧ ((A i).state = 0 → left k o' + 1 = left k (A i))) ∧ Calls Try.prog 17 #[.pointer (some ⟨b, 0, none⟩)] w fun e w' => e = .returned (.int .i64 o'.state) ∧ WSt W0 w' gg a p q g k cg ds xs (updo A i o') c' := by
  obtain ⟨c', o', h1, h2, h3, h4⟩ := h.inv.step hk i hi
  have hlt := h.inv.lt hk
  refine ⟨c', o', ⟨h3, h4⟩, (h.sx.step (h.wf.of_ i b (by omega) hb) (by rw [cnt_work]; omega) (h.inv.ok i (by omega)).ok h1).mono ?_⟩
  rintro e w' ⟨rfl, g1, g2, g3⟩
  have hty := h.sx.types (h.wf.of_ i b (by omega) hb)
  have hlo := h.wf.lo i b (by omega) hb
  refine ⟨rfl, h.tu.trans_new g3 (fun y hy => ?_), g1, h.pr.keep g3 (fun y hy => ?_), h.wf.step h.sx (by omega) hb g2 g3, h2, h.lo⟩
  · have := h.lo
    simp at hy
    right
    rcases hy with rfl | rfl | rfl <;> omega
  · obtain ⟨cc, e, fr, hc, he⟩ := hty y hy
    exact ⟨cc, e, fr, hc, by rcases he with rfl | rfl | rfl <;> decide⟩

/-- A new offer. -/
theorem WSt.offer (h : WSt W0 w gg a p q g k cg ds xs A c) (hk : 2 ≤ k) (hl : ds.length = k) {i : Nat} (hi : i ≤ 3) (ha : act (A i) = 0) :
    Calls Try.prog 16 #[.pointer (some ⟨a, 0, none⟩), .slice (some ⟨g, 0, none⟩) k cg] w fun e w' => ∃ b, e = .returned (.pointer (some ⟨b, 0, none⟩)) ∧ w'.cell? ⟨gg, i, none⟩ = some (pv (xs i)) ∧ w'.frozen? ⟨gg, i, none⟩ = false ∧ WSt W0 (w'.setCell ⟨gg, i, none⟩ (.pointer (some ⟨b, 0, none⟩))) gg a p q g k cg ds (updx xs i (some b)) (updo A i ofNew) c := by
  obtain ⟨s, hs⟩ := h.sx
  have h1 := offer_any w a p q ds (allQ k) (workL k c) s g 0 cg (by omega) (fun j x hx => by rw [Nat.zero_add]; exact h.pr.cell hx) hs
  rw [hl] at h1
  refine h1.mono ?_
  rintro e w' ⟨b, rfl, hb, ho, t⟩
  have h2 := h.wf.new hi t ho hb h.tu.size
  have h3 := (h.wf.keep0 t).ar
  have har : w.heap[gg]? = some (.cells #[pv (xs 0), pv (xs 1), pv (xs 2), pv (xs 3)] 50) := h.wf.ar
  refine ⟨b, rfl, h3.at i hi, h3.fz i, h.tu.trans_new h2.2 (fun y hy => ?_), ?_, h.pr.keep h2.2 (fun y hy => ?_), h2.1, h.inv.new i hi ha, h.lo⟩
  · simp at hy
    subst hy
    exact .inr h.wf.log
  · refine h.sx.turned h2.2 ?_ ?_ ?_ (fun d hd => ?_)
    · simp; exact ne_of_type hs.head har (by decide)
    · simp; exact ne_of_type hs.mem.head har (by decide)
    · simp; exact ne_of_type hs.mem.row har (by decide)
    · simp
      obtain ⟨j, hj⟩ := List.getElem?_of_mem hd
      exact ne_of_type (hs.dq j d hj).head har (by decide)
  · simp at hy
    subst hy
    exact ⟨_, _, _, har, by decide⟩

theorem WSt.state (h : WSt W0 w gg a p q g k cg ds xs A c) {i b : Nat} (hi : i ≤ 3) (hb : xs i = some b) :
    Calls Try.prog 15 #[.pointer (some ⟨b, 0, none⟩)] w fun e w' => e = .returned (.int .i64 (A i).state) ∧ w' = w := state_any w a b ds (A i) (h.wf.of_ i b hi hb)
end
end Go.Proofs.Ytokabpgdklihlaa

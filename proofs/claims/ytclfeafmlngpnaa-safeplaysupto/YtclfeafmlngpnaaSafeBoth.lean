/-
  The program's object and the document's, side by side, with a call that is read: what each side's steps leave.
-/
import Derived.Test.YtclfeafmlngpnaaSafeRefD
import Derived.Test.YtclfeafmlngpnaaSafeOpen
import Derived.Test.YtclfeafmlngpnaaSafeSame
namespace Go.Proofs.Ytclfeafmlngpnaa
open Go.RowKit Go.Maps
set_option linter.unusedVariables false

/-- The call that is read: its block O. -/
structure Cl where
  K : Int
  At : Int
  ao : Option Addr
  len : Nat
  cap : Nat
  l : List Int
/-- Both, and the call: L, ar the program's; M, br the document's. -/
structure Pl (w0 w : World) (a r O : Nat) (L M : Th) (ar br : Bool) (c : Cl) : Prop where
  s : Sn w0 w a L ar
  f : ∃ v u, Rf w w0.heap.size r v u M br
  o : w.heap[O]? = some (.cells #[.int .i64 c.K, .int .i64 c.At, .slice c.ao c.len c.cap] 31)
  i : IRd w0 c.ao c.len c.l
  at_ : In64 c.At
  few : c.len ≤ 1048576

section
variable {w0 w w' : World} {a r O : Nat} {L M L' M' : Th} {ar br ar' br' : Bool} {c : Cl}
theorem Pl.c1 (h : Pl w0 w a r O L M ar br c) : w.cell? ⟨O, 1, none⟩ = some (.int .i64 c.At) := by rw [cell_of_heap h.o]; rfl
theorem Pl.c2 (h : Pl w0 w a r O L M ar br c) : w.cell? ⟨O, 2, none⟩ = some (.slice c.ao c.len c.cap) := by rw [cell_of_heap h.o]; rfl
theorem Pl.ird (h : Pl w0 w a r O L M ar br c) : IRd w c.ao c.len c.l := h.i.turned h.s.turn (by simp)
theorem Pl.turn (h : Pl w0 w a r O L M ar br c) (ht : Turned [] w w') : Pl w0 w' a r O L M ar br c := by
  obtain ⟨v, u, hf⟩ := h.f
  exact ⟨h.s.next ht, ⟨v, u, hf.turned ht (by simp)⟩, (ht.block O (lt_of_heap h.o) (by simp)).trans h.o, h.i, h.at_, h.few⟩
theorem Pl.drew (h : Pl w0 w a r O L M ar br c) : Pl w0 w.drew a r O L M ar br c := h.turn ((Turned.refl [] w).drew)
/-- What the document's object is made of, stays where other types' blocks stay. -/
theorem Rf.keeps {B : Nat} {v u : Value} (h : Rf w B r v u M br) (hk : Keeps w w') : Rf w' B r v u M br :=
  h.keep (fun k hm => by
    rcases mem_tb.1 hm with rfl | e | e
    · exact hk.block _ _ _ _ h.obj (by decide)
    · obtain ⟨_, _, c, hc⟩ := ownsRow_lt h.rv k e
      exact hk.block _ _ _ _ hc (by decide)
    · obtain ⟨_, _, c, hc⟩ := ownsRow_lt h.ru k e
      exact hk.block _ _ _ _ hc (by decide))
/-- The program has stepped. -/
theorem Pl.prog (h : Pl w0 w a r O L M ar br c) (hs : Sn w0 w' a L' ar') (hk : Keeps w w') : Pl w0 w' a r O L' M ar' br c := by
  obtain ⟨v, u, hf⟩ := h.f
  exact ⟨hs, ⟨v, u, hf.keeps hk⟩, (hk.block _ _ _ _ h.o (by decide)).trans h.o, h.i, h.at_, h.few⟩
/-- A block of another type is none of the document's. -/
theorem rf_other {B : Nat} {v u : Value} (h : Rf w B r v u M br) {k : Nat} {cs : Array Value} {t : TypeId} {fr : Nat × Nat} (hk : w.heap[k]? = some (.cells cs t fr)) (h1 : t ≠ 3) (h2 : t ≠ 29) : k ∉ tb r v u := by
  intro hm
  rcases mem_tb.1 hm with rfl | e | e
  · rw [h.obj] at hk
    simp at hk
    exact h2 hk.2.1.symm
  · obtain ⟨_, _, c, hc⟩ := ownsRow_lt h.rv k e
    rw [hc] at hk
    simp at hk
    exact h1 hk.2.1.symm
  · obtain ⟨_, _, c, hc⟩ := ownsRow_lt h.ru k e
    rw [hc] at hk
    simp at hk
    exact h1 hk.2.1.symm
theorem rf_map {B : Nat} {v u : Value} (h : Rf w B r v u M br) {k : Nat} {es : Array MapEntry} {cl : Nat} (hk : w.heap[k]? = some (.map es cl)) : k ∉ tb r v u := by
  intro hm
  rcases mem_tb.1 hm with rfl | e | e
  · rw [h.obj] at hk; cases hk
  · obtain ⟨_, _, c, hc⟩ := ownsRow_lt h.rv k e
    rw [hc] at hk; cases hk
  · obtain ⟨_, _, c, hc⟩ := ownsRow_lt h.ru k e
    rw [hc] at hk; cases hk
/-- The document has stepped. -/
theorem Pl.ref (h : Pl w0 w a r O L M ar br c) {v u v' u' : Value} (hf : Rf w w0.heap.size r v u M br) (hf' : Rf w' w0.heap.size r v' u' M' br') (ht : Turned (tb r v u) w w') : Pl w0 w' a r O L M' ar br' c := by
  obtain ⟨mo, h1, h2, h3, h4⟩ := h.s
  refine ⟨⟨mo, h1.turned ht (rf_other hf h1.obj (by decide) (by decide)) (fun b hb => ?_), h2.trans_new ht (fun i hi => .inr (hf.in_lt hi).2), h3, h4⟩, ⟨v', u', hf'⟩, (ht.block O (lt_of_heap h.o) (rf_other hf h.o (by decide) (by decide))).trans h.o, h.i, h.at_, h.few⟩
  obtain ⟨es, cl, hm⟩ := (h1.map b hb).isMap
  exact rf_map hf hm
theorem tb_one {r : Nat} {v u : Value} : ∀ k, k ∈ [r] → k ∈ tb r v u := fun k hk => by simp at hk; exact mem_tb.2 (.inl hk)

theorem pl_add (h : Pl w0 w a r O L M ar br c) (hf : L.length + c.len < 17592186044416) :
    Calls Try.prog 11 #[ptr a, .slice c.ao c.len c.cap] w fun e w' => e = .returned (.int .i64 ((addR ar L c.l).2 : Int)) ∧ Pl w0 w' a r O (addR ar L c.l).1 M ar br c := by
  refine (sn_add h.s _ _ _ _ h.ird hf).mono ?_
  rintro e w' ⟨rfl, h1, h2⟩
  exact ⟨rfl, h.prog h1 h2⟩
theorem pl_end (h : Pl w0 w a r O L M ar br c) :
    Calls Try.prog 13 #[ptr a, .slice c.ao c.len c.cap] w fun e w' => e = .returned (.int .i64 ((endR L c.l).2 : Int)) ∧ Pl w0 w' a r O (endR L c.l).1 M ar br c := by
  refine (sn_end h.s _ _ _ _ h.ird (by have := h.few; omega)).mono ?_
  rintro e w' ⟨rfl, h1, h2⟩
  exact ⟨rfl, h.prog h1 h2⟩
theorem pl_poll (h : Pl w0 w a r O L M ar br c) :
    Calls Try.prog 22 #[ptr a, .int .i64 c.At] w fun e w' => e = .returned (.bool (polls L ar c.At)) ∧ Pl w0 w' a r O (pollL L ar c.At) M ar br c := by
  refine (sn_poll h.s _ h.at_).mono ?_
  rintro e w' ⟨rfl, h1, h2⟩
  exact ⟨rfl, h.prog h1 h2⟩
theorem pl_hold (h : Pl w0 w a r O L M ar br c) :
    Calls Try.prog 14 #[ptr a, .int .i64 c.At] w fun e w' => e = .returned (.int .i64 (mustE (st L c.At) 1)) ∧ Pl w0 w' a r O (holdL L c.At) M ar br c := by
  refine (sn_hold h.s _ h.at_).mono ?_
  rintro e w' ⟨rfl, h1, h2⟩
  exact ⟨rfl, h.prog h1 h2⟩
theorem pl_free (h : Pl w0 w a r O L M ar br c) :
    Calls Try.prog 16 #[ptr a, .int .i64 c.At] w fun e w' => e = .returned (.tuple #[.bool (decide (st L c.At = 3) && !ar), .int .i64 (mustE (st L c.At) 3)]) ∧ Pl w0 w' a r O (freeL L ar c.At) M ar br c := by
  refine (sn_free h.s _ h.at_).mono ?_
  rintro e w' ⟨rfl, h1, h2⟩
  exact ⟨rfl, h.prog h1 h2⟩
theorem pl_arm (h : Pl w0 w a r O L M ar br c) :
    Calls Try.prog 18 #[ptr a] w fun e w' => e = .returned (.bool (!ar)) ∧ Pl w0 w' a r O L M true br c := by
  refine (sn_arm h.s).mono ?_
  rintro e w' ⟨rfl, h1, h2⟩
  exact ⟨rfl, h.prog h1 h2⟩
theorem pl_armed (h : Pl w0 w a r O L M ar br c) :
    Calls Try.prog 28 #[ptr a] w fun e w' => e = .returned (.bool ar) ∧ w' = w := sn_armed h.s
theorem pl_state (h : Pl w0 w a r O L M ar br c) :
    Calls Try.prog 26 #[ptr a, .int .i64 c.At] w fun e w' => e = .returned (.int .i64 (st L c.At)) ∧ w' = w := sn_state h.s _ h.at_
theorem pl_reached (h : Pl w0 w a r O L M ar br c) :
    Calls Try.prog 29 #[ptr a] w fun e w' => e = .returned (.bool (reach L ar)) ∧ Turned [] w w' := by
  refine (sn_reached h.s).mono ?_
  rintro e w' ⟨rfl, _, h2⟩
  exact ⟨rfl, h2⟩
theorem pl_in (h : Pl w0 w a r O L M ar br c) (ao : Option Addr) (len cap : Nat) (l : List Int) (hl : IRd w ao len l) (hlen : len ≤ 1048576) :
    Calls Try.prog 24 #[ptr a, .slice ao len cap] w fun e w' => ∃ x, e = .returned x ∧ Row w' w0.heap.size x (inL l L) ∧ Turned [] w w' := by
  refine (sn_in h.s ao len cap l hl (by omega)).mono ?_
  rintro e w' ⟨x, rfl, h1, _, h2⟩
  exact ⟨x, rfl, h1.mono h.s.turn.size, h2⟩
theorem pl_resume (h : Pl w0 w a r O L M ar br c) :
    Calls Try.prog 20 #[ptr a] w fun e w' => ∃ x, e = .returned x ∧ Row w' w0.heap.size x (resumeT L ar) ∧ Pl w0 w' a r O (resumeL L ar) M (resumeA L ar) br c ∧ ∃ v u, Rf w' w0.heap.size r v u M br ∧ ∀ k, x.ownBlock = some k → k ∉ tb r v u := by
  refine (sn_resume h.s).mono ?_
  rintro e w' ⟨x, rfl, h1, h2, h3⟩
  obtain ⟨v, u, hf⟩ := h.f
  refine ⟨x, rfl, h1.mono h.s.turn.size, h.prog h2 h3, v, u, hf.keeps h3, fun k hk hm => ?_⟩
  have a1 := (ownsRow_lt h1 k hk).1
  have a2 := (hf.in_lt hm).1
  omega

theorem pl_radd (h : Pl w0 w a r O L M ar br c) (x : Int) (hx : In64 x) (hf : M.length + 1 < 17592186044416) :
    Calls Try.prog 10 #[ptr r, .int .i64 x] w fun e w' => e = .returned (.int .i64 (if isNew M x then 1 else 0)) ∧ Pl w0 w' a r O L (addL br M x) ar br c := by
  obtain ⟨v, u, h1⟩ := h.f
  refine (radd_any w _ r v u M br x h1 hx hf).mono ?_
  rintro e w' ⟨rfl, v', u', h2, h3⟩
  exact ⟨rfl, h.ref h1 h2 (h3.mono tb_one)⟩
theorem pl_rend (h : Pl w0 w a r O L M ar br c) (x : Int) :
    Calls Try.prog 12 #[ptr r, .int .i64 x] w fun e w' => e = .returned (.int .i64 (if isOld M x then 1 else 0)) ∧ Pl w0 w' a r O L (del x M) ar br c := by
  obtain ⟨v, u, h1⟩ := h.f
  refine (rend_any w _ r v u M br x h1).mono ?_
  rintro e w' ⟨rfl, v', u', h2, h3⟩
  exact ⟨rfl, h.ref h1 h2 (h3.mono tb_one)⟩
theorem pl_rpoll (h : Pl w0 w a r O L M ar br c) :
    Calls Try.prog 23 #[ptr r, .int .i64 c.At] w fun e w' => e = .returned (.bool (polls M br c.At)) ∧ Pl w0 w' a r O L (pollL M br c.At) ar br c := by
  obtain ⟨v, u, h1⟩ := h.f
  refine (rpoll_any w _ r v u M br _ h1).mono ?_
  rintro e w' ⟨rfl, h2, h3⟩
  exact ⟨rfl, h.ref h1 h2 h3⟩
theorem pl_rhold (h : Pl w0 w a r O L M ar br c) :
    Calls Try.prog 15 #[ptr r, .int .i64 c.At] w fun e w' => e = .returned (.int .i64 (mustE (st M c.At) 1)) ∧ Pl w0 w' a r O L (holdL M c.At) ar br c := by
  obtain ⟨v, u, h1⟩ := h.f
  refine (rhold_any w _ r v u M br _ h1).mono ?_
  rintro e w' ⟨rfl, h2, h3⟩
  exact ⟨rfl, h.ref h1 h2 h3⟩
theorem pl_rfree (h : Pl w0 w a r O L M ar br c) :
    Calls Try.prog 17 #[ptr r, .int .i64 c.At] w fun e w' => e = .returned (.tuple #[.bool (decide (st M c.At = 3) && !br), .int .i64 (mustE (st M c.At) 3)]) ∧ Pl w0 w' a r O L (freeL M br c.At) ar br c := by
  obtain ⟨v, u, h1⟩ := h.f
  refine (rfree_any w _ r v u M br _ h1).mono ?_
  rintro e w' ⟨rfl, h2, h3⟩
  exact ⟨rfl, h.ref h1 h2 h3⟩
theorem pl_rstate (h : Pl w0 w a r O L M ar br c) :
    Calls Try.prog 27 #[ptr r, .int .i64 c.At] w fun e w' => e = .returned (.int .i64 (st M c.At)) ∧ w' = w := by
  obtain ⟨v, u, h1⟩ := h.f
  exact rstate_any w _ r v u M br _ h1
theorem pl_rreached (h : Pl w0 w a r O L M ar br c) :
    Calls Try.prog 30 #[ptr r] w fun e w' => e = .returned (.bool (reach M br)) ∧ Turned [] w w' := by
  obtain ⟨v, u, h1⟩ := h.f
  exact rreached_any w _ r v u M br h1
theorem pl_rin (h : Pl w0 w a r O L M ar br c) (ao : Option Addr) (len cap : Nat) (l : List Int) (hl : IRd w ao len l) (hlen : len ≤ 1048576) :
    Calls Try.prog 25 #[ptr r, .slice ao len cap] w fun e w' => ∃ x, e = .returned x ∧ Row w' w0.heap.size x (inL l M) ∧ Turned [] w w' := by
  obtain ⟨v, u, h1⟩ := h.f
  refine (rin_any w _ r v u M br ao len cap l h1 hl (by omega)).mono ?_
  rintro e w' ⟨x, rfl, h2, h3⟩
  exact ⟨x, rfl, h2.mono h.s.turn.size, h3⟩
/-- The document's Resume, and a row that was told ahead of it. -/
theorem pl_rresume (h : Pl w0 w a r O L M ar br c) {x v u : Value} {l : List Int} (hr : Row w w0.heap.size x l) (h1 : Rf w w0.heap.size r v u M br) (hM : ∀ k, x.ownBlock = some k → k ∉ tb r v u) :
    Calls Try.prog 21 #[ptr r] w fun e w' => ∃ y, e = .returned y ∧ Row w' w0.heap.size y (resumeT M br) ∧ Row w' w0.heap.size x l ∧ Pl w0 w' a r O L (resumeL M br) ar (resumeA M br) c := by
  refine (rresume_any w _ r v u M br h1).mono ?_
  rintro e w' ⟨y, rfl, h2, h3, h4⟩
  exact ⟨y, rfl, h2.mono h.s.turn.size, hr.keep h4 hM, h.ref h1 h3 h4⟩
theorem pl_c2 (h : Pl w0 w a r O L M ar br c) : w.cell? ⟨r, 2, none⟩ = some (.bool br) ∧ w.frozen? ⟨r, 2, none⟩ = false := by
  obtain ⟨v, u, h1⟩ := h.f
  exact ⟨h1.c2, h1.fr 2⟩
/-- 'r.Armed = true'. -/
theorem pl_set (h : Pl w0 w a r O L M ar br c) : Pl w0 (w.setCell ⟨r, 2, none⟩ (.bool true)) a r O L M ar true c := by
  obtain ⟨v, u, h1⟩ := h.f
  refine h.ref h1 (v' := v) (u' := u) ⟨by rw [heap_setCell_at w r 2 _ _ _ h1.obj]; rfl, row_store (i := 2) h1.obj h1.rv, row_store (i := 2) h1.obj h1.ru, h1.ap, h1.ok, h1.few, h1.lo⟩ ?_
  exact (Turned.refl _ w).setCell (p := ⟨r, 2, none⟩) (.inl (mem_tb.2 (.inl rfl))) _
end
/-- Both, between two calls. -/
def Bo (w0 w : World) (a r : Nat) (L : Th) (ar : Bool) : Prop := Sn w0 w a L ar ∧ ∃ v u, Rf w w0.heap.size r v u L ar
theorem Bo.call {w0 w w' : World} {a r O : Nat} {L : Th} {ar : Bool} {c : Cl} (h : Bo w0 w a r L ar) (ht : Turned [] w w') (ho : w'.heap[O]? = some (.cells #[.int .i64 c.K, .int .i64 c.At, .slice c.ao c.len c.cap] 31)) (hi : IRd w0 c.ao c.len c.l) (ha : In64 c.At) (hf : c.len ≤ 1048576) : Pl w0 w' a r O L L ar ar c := by
  obtain ⟨h1, v, u, h2⟩ := h
  exact ⟨h1.next ht, ⟨v, u, h2.turned ht (by simp)⟩, ho, hi, ha, hf⟩
theorem Pl.bo {w0 w : World} {a r O : Nat} {L : Th} {ar : Bool} {c : Cl} (h : Pl w0 w a r O L L ar ar c) : Bo w0 w a r L ar := ⟨h.s, h.f⟩
end Go.Proofs.Ytclfeafmlngpnaa

/-
  Rows of parties ('Qv'): slices, some of which may lie behind each other in one block; join and cut.
-/
import Derived.Test.YtlbcbphkgaoliabMonMaps
import Derived.ArgAppend
import Derived.Laws.AppendOwn
import Derived.BigQuiet
import Derived.Deep.AppendSrc
namespace Go.Proofs.Ytlbcbphkgaoliab
open Go.RowKit
set_option linter.unusedVariables false
set_option linter.unusedSimpArgs false

theorem Turned.at {S : List Nat} {w w' : World} (t : Turned S w w') {k : Nat} {o : Obj} (h : w.heap[k]? = some o) (hk : k ∉ S) : w'.heap[k]? = some o := by rw [t.block k (lt_of_heap h) hk]; exact h
theorem partyInfo : (Try.prog.info? 52).map (fun i => (i.zero, i.size, i.bytes)) = some (some (.agg #[.int .i64 0, .int .i64 0]), 2, 16) := by kernel_rfl
theorem undParties : Try.prog.underlying 49 = some (.slice 52) := by kernel_rfl

/-- The cells that a slice may write. -/
def InR (s : Sv) (b i : Nat) : Prop := ∃ off, s.at_ = some (b, off) ∧ off ≤ i ∧ i < off + 2 * s.cap
/-- Two slices that share no cell. -/
def Sep (s u : Sv) : Prop := ∀ b i, InR s b i → ¬ InR u b i
theorem Sep.symm {s u : Sv} (h : Sep s u) : Sep u s := fun b i h1 h2 => h b i h2 h1
/-- The parties of a list, as cells. -/
def pcells (l : List (Int × Int)) : List Value := l.flatMap fun x => [.int .i64 x.1, .int .i64 x.2]
theorem pcells_length (l : List (Int × Int)) : (pcells l).length = l.length * 2 := by
  induction l with
  | nil => rfl
  | cons x l ih => simp [pcells] at ih ⊢; omega
theorem pcells_append (l m : List (Int × Int)) : pcells (l ++ m) = pcells l ++ pcells m := by simp [pcells]
theorem pcells_one {l : List (Int × Int)} {u : Value} (h : u ∈ pcells l) : u.oneCell' = true := by
  simp only [pcells, List.mem_flatMap] at h
  obtain ⟨x, _, h⟩ := h
  simp at h
  rcases h with rfl | rfl <;> rfl
/-- A slice of parties that can be read. -/
structure Qv (w : World) (s : Sv) (l : List (Int × Int)) : Prop where
  len : l.length = s.len
  room : s.len ≤ s.cap
  nil : s.at_ = none → s.cap = 0
  row : ∀ b off, s.at_ = some (b, off) → 0 < s.cap → ∃ c, w.heap[b]? = some (.cells c 52 (0, 0)) ∧ off + 2 * s.cap ≤ c.size ∧ ∀ j u, (pcells l)[j]? = some u → c[off + j]? = some u
/-- What a write into a slice's own cells leaves: all blocks but its own, and there all cells but its own. -/
structure St (F : Nat → Nat → Prop) (w w' : World) : Prop where
  os : w'.os = w.os
  tape : w'.tape = w.tape
  output : w'.output = w.output
  size : w.heap.size ≤ w'.heap.size
  block : ∀ k, k < w.heap.size → (∀ i, ¬ F k i) → w'.heap[k]? = w.heap[k]?
  row : ∀ k c, w.heap[k]? = some (.cells c 52 (0, 0)) → ∃ c', w'.heap[k]? = some (.cells c' 52 (0, 0)) ∧ c'.size = c.size ∧ ∀ i, ¬ F k i → c'[i]? = c[i]?
theorem St.of {F : Nat → Nat → Prop} {w w' : World} (t : Turned [] w w') : St F w w' :=
  ⟨t.os, t.tape, t.output, t.size, fun k hk _ => t.block k hk (by simp), fun k c hc => ⟨c, t.at hc (by simp), rfl, fun _ _ => rfl⟩⟩
theorem St.mono {F G : Nat → Nat → Prop} {w w' : World} (h : St F w w') (hs : ∀ k i, F k i → G k i) : St G w w' :=
  ⟨h.os, h.tape, h.output, h.size, fun k hk hn => h.block k hk (fun i hi => hn i (hs k i hi)), fun k c hc => by
    obtain ⟨c', h1, h2, h3⟩ := h.row k c hc
    exact ⟨c', h1, h2, fun i hi => h3 i (fun g => hi (hs k i g))⟩⟩
theorem St.trans {F : Nat → Nat → Prop} {a b c : World} (h : St F a b) (k : St F b c) : St F a c :=
  ⟨k.os.trans h.os, k.tape.trans h.tape, k.output.trans h.output, Nat.le_trans h.size k.size, fun i hi hn => (k.block i (by have := h.size; omega) hn).trans (h.block i hi hn), fun i x hx => by
    obtain ⟨y, h1, h2, h3⟩ := h.row i x hx
    obtain ⟨z, k1, k2, k3⟩ := k.row i y h1
    exact ⟨z, k1, k2.trans h2, fun j hj => (k3 j hj).trans (h3 j hj)⟩⟩
theorem St.at {F : Nat → Nat → Prop} {w w' : World} (h : St F w w') {k : Nat} {o : Obj} (hk : w.heap[k]? = some o) (hn : ∀ i, ¬ F k i) : w'.heap[k]? = some o := by
  rw [h.block k (by rcases Array.getElem?_eq_some_iff.1 hk with ⟨g, _⟩; exact g) hn]
  exact hk
theorem Qv.keep {F : Nat → Nat → Prop} {w w' : World} {s : Sv} {l : List (Int × Int)} (h : Qv w s l) (t : St F w w') (hn : ∀ b i, InR s b i → ¬ F b i) : Qv w' s l := by
  refine ⟨h.len, h.room, h.nil, fun b off hb hc => ?_⟩
  obtain ⟨c, h1, h2, h3⟩ := h.row b off hb hc
  obtain ⟨c', k1, k2, k3⟩ := t.row b c h1
  refine ⟨c', k1, by omega, fun j u hu => ?_⟩
  have hj := (List.getElem?_eq_some_iff.1 hu).1
  rw [pcells_length, h.len] at hj
  have hr := h.room
  rw [k3 (off + j) (hn b _ ⟨off, hb, by omega, by omega⟩)]
  exact h3 j u hu
theorem Qv.turned {w w' : World} {s : Sv} {l : List (Int × Int)} (h : Qv w s l) (t : Turned [] w w') : Qv w' s l := h.keep (F := fun _ _ => False) (St.of t) (fun _ _ _ h => h)
theorem Qv.lt {w : World} {s : Sv} {l : List (Int × Int)} (h : Qv w s l) {b i : Nat} (hb : InR s b i) : b < w.heap.size := by
  obtain ⟨off, h1, h2, h3⟩ := hb
  obtain ⟨c, k1, _⟩ := h.row b off h1 (by omega)
  exact lt_of_heap k1
/-- What is fresh shares nothing with what was there. -/
theorem Qv.fresh {w : World} {s u : Sv} {l : List (Int × Int)} (h : Qv w s l) (hu : ∀ b i, InR u b i → w.heap.size ≤ b) : Sep s u := fun b i h1 h2 => by
  have := h.lt h1
  have := hu b i h2
  omega
theorem qv_none (w : World) : Qv w Sv.zero [] := ⟨rfl, Nat.le_refl _, fun _ => rfl, fun b off h => by cases h⟩
theorem ownsRow_qv {w : World} {B : Nat} {v : Value} {n : Nat} {l : List (Int × Int)} (h : w.ownsRow B 52 2 v n (pcells l)) : ∃ s : Sv, v = s.val ∧ Qv w s l ∧ s.len = n ∧ ∀ b i, InR s b i → B ≤ b := by
  have hl : l.length = n := by have := h.1; rw [pcells_length] at this; omega
  rcases h.2 with ⟨hv, h0⟩ | ⟨g, cap, cur, hv, hg, hh, hc, hpos, hsz, ht⟩
  · subst h0
    obtain rfl := List.eq_nil_of_length_eq_zero hl
    exact ⟨Sv.zero, hv, qv_none w, rfl, fun b i hb => by obtain ⟨off, h1, _⟩ := hb; cases h1⟩
  · refine ⟨⟨some (g, 0), n, cap⟩, hv, ⟨hl, by first | omega | (simp at *; omega), (fun e => by cases e), fun b off hb hc' => ?_⟩, rfl, fun b i hb => ?_⟩
    · cases hb
      refine ⟨cur, hh, by first | omega | (simp at *; omega), fun j u hu => ?_⟩
      rw [Nat.zero_add]
      have hj := (List.getElem?_eq_some_iff.1 hu).1
      rw [pcells_length] at hj
      rw [← ht, List.getElem?_take_of_lt (by omega), Array.getElem?_toList] at hu
      exact hu
    · obtain ⟨off, h1, _⟩ := hb
      cases h1
      exact hg
theorem setCells_row {e : TypeId} (b : Nat) (vs : List Value) : ∀ (o : Nat) (w : World) (c : Array Value), w.heap[b]? = some (.cells c e (0, 0)) → o + vs.length ≤ c.size → ∃ c', (w.setCells b o vs).heap[b]? = some (.cells c' e (0, 0)) ∧ c'.size = c.size ∧ (∀ i, i < o ∨ o + vs.length ≤ i → c'[i]? = c[i]?) ∧ ∀ j u, vs[j]? = some u → c'[o + j]? = some u := by
  induction vs with
  | nil => intro o w c h _; exact ⟨c, h, rfl, fun _ _ => rfl, fun j u hu => by simp at hu⟩
  | cons v vs ih =>
    intro o w c h hsz
    simp only [List.length_cons] at hsz
    obtain ⟨c', h1, h2, h3, h4⟩ := ih (o + 1) (w.setCell ⟨b, o, none⟩ v) _ (heap_setCell_at w b o c e (0, 0) h v) (by simp; omega)
    refine ⟨c', h1, by rw [h2]; simp, fun i hi => ?_, fun j u hu => ?_⟩
    · simp only [List.length_cons] at hi
      rw [h3 i (by omega), Array.getElem?_setIfInBounds, if_neg (by omega)]
    · match j, hu with
      | 0, hu =>
        simp at hu
        subst hu
        rw [Nat.add_zero, h3 o (by omega), Array.getElem?_setIfInBounds, if_pos rfl, if_pos (by omega)]
      | j + 1, hu =>
        have := h4 j u (by simpa using hu)
        rw [show o + (j + 1) = o + 1 + j by omega]
        exact this
theorem setCells_size (b : Nat) (vs : List Value) : ∀ (o : Nat) (w : World), (w.setCells b o vs).heap.size = w.heap.size := by
  induction vs with
  | nil => intro o w; rfl
  | cons v vs ih => intro o w; exact (ih (o + 1) _).trans (by simp [World.setCell])
theorem setCells_turned (b : Nat) (vs : List Value) : ∀ (o : Nat) (w : World), Turned [b] w (w.setCells b o vs) := by
  induction vs with
  | nil => intro o w; exact Turned.refl _ _
  | cons v vs ih => intro o w; exact ((Turned.refl _ _).setCell (p := ⟨b, o, none⟩) (by simp) v).trans (ih (o + 1) _)
/-- Parties are put behind a slice, in its own room. -/
theorem setCells_st (s : Sv) (b off : Nat) (vs : List Value) (hs : s.at_ = some (b, off)) (o : Nat) (w : World) (c : Array Value) (h : w.heap[b]? = some (.cells c 52 (0, 0))) (hlo : off ≤ o) (hhi : o + vs.length ≤ off + 2 * s.cap) (hsz : off + 2 * s.cap ≤ c.size) (h0 : 0 < s.cap) : St (InR s) w (w.setCells b o vs) := by
  obtain ⟨c', h1, h2, h3, h4⟩ := setCells_row b vs o w c h (by omega)
  have t := setCells_turned b vs o w
  refine ⟨t.os, t.tape, t.output, t.size, fun k hk hn => t.block k hk ?_, fun k x hx => ?_⟩
  · simp
    rintro rfl
    exact hn off ⟨off, hs, Nat.le_refl _, by omega⟩
  · by_cases hk : k = b
    · subst hk
      rw [h] at hx
      cases hx
      refine ⟨c', h1, h2, fun i hi => h3 i ?_⟩
      by_cases q : i < o ∨ o + vs.length ≤ i
      · exact q
      · exact absurd ⟨off, hs, by omega, by omega⟩ hi
    · exact ⟨x, t.at hx (by simpa using hk), rfl, fun _ _ => rfl⟩
theorem pcells_take {l : List (Int × Int)} {n : Nat} : pcells (l.take n) = (pcells l).take (n * 2) := by
  induction l generalizing n with
  | nil => simp [pcells]
  | cons x l ih =>
    cases n with
    | zero => simp [pcells]
    | succ n =>
      rw [List.take_succ_cons, show (n + 1) * 2 = n * 2 + 1 + 1 by omega]
      show _ :: _ :: pcells (l.take n) = List.take (n * 2 + 1 + 1) (_ :: _ :: pcells l)
      rw [ih, List.take_succ_cons, List.take_succ_cons]
theorem pcells_drop {l : List (Int × Int)} {n : Nat} : pcells (l.drop n) = (pcells l).drop (n * 2) := by
  induction l generalizing n with
  | nil => simp [pcells]
  | cons x l ih =>
    cases n with
    | zero => simp
    | succ n =>
      rw [List.drop_succ_cons, show (n + 1) * 2 = n * 2 + 1 + 1 by omega]
      show pcells (l.drop n) = List.drop (n * 2 + 1 + 1) (_ :: _ :: pcells l)
      rw [ih, List.drop_succ_cons, List.drop_succ_cons]
/-- What comes out of joining two slices. -/
def Joined (w : World) (s u : Sv) (l m : List (Int × Int)) (v : Value) (w' : World) : Prop := ∃ r : Sv, v = r.val ∧ Qv w' r (l ++ m) ∧ St (InR s) w w' ∧ ∀ b i, InR r b i → InR s b i ∨ InR u b i ∨ w.heap.size ≤ b
set_option maxRecDepth 100000 in
theorem join_any (s u : Sv) (l m : List (Int × Int)) (w : World) (h : Qv w s l) (hu : Qv w u m) (hm : 0 < m.length) (hb : l.length + m.length ≤ 1000) :
    Calls Try.prog 21 #[s.val, u.val] w fun e w' => ∃ v, e = .returned v ∧ Joined w s u l m v w' := by
  obtain ⟨i2, hi2, hi0⟩ := Option.map_eq_some_iff.1 partyInfo
  simp only [Prod.mk.injEq] at hi0
  obtain ⟨hy0, hy1, hy2⟩ := hi0
  have HH := hide h
  have HU := hide hu
  obtain ⟨sa, sl, sc⟩ := s
  obtain ⟨ua, ul, uc⟩ := u
  have hsl : l.length = sl := h.len
  have hul : m.length = ul := hu.len
  have hur : ul ≤ uc := hu.room
  have hsr : sl ≤ sc := h.room
  have hun := hu.nil
  obtain ⟨⟨ub, uo⟩, rfl⟩ : ∃ p, ua = some p := by
    cases ua with
    | some p => exact ⟨p, rfl⟩
    | none => have := hun rfl; simp at this; omega
  obtain ⟨cu, hu1, hu2, hu3⟩ := hu.row ub uo rfl (by show 0 < uc; omega)
  have hnews : ∀ j v, (pcells m)[j]? = some v → w.cell? ((⟨ub, uo, none⟩ : Addr).add j) = some v := fun j v hv => by
    rw [show ((⟨ub, uo, none⟩ : Addr).add j) = ⟨ub, uo + j, none⟩ by simp [Addr.add], cell_of_heap hu1]
    exact hu3 j v hv
  unfold Sv.val Sv.addr
  simp only [Option.map_some]
  by_cases h0 : sl = 0
  · have hl0 : l = [] := List.eq_nil_of_length_eq_zero (by omega)
    have h0i : (sl : Int) = 0 := by omega
    have HJ : Hid (Joined w ⟨sa, sl, sc⟩ ⟨some (ub, uo), ul, uc⟩ l m (.slice (some ⟨ub, uo, none⟩) ul uc) w) := hide ⟨⟨some (ub, uo), ul, uc⟩, rfl, by rw [hl0]; exact HU.out, St.of (Turned.refl _ _), fun b i hb => .inr (.inl hb)⟩
    subst h0
    clear h hu hun hu1 hu2 hu3 hnews
    generalize hao : (Option.map (fun p : Nat × Nat => (⟨p.1, p.2, none⟩ : Addr)) sa) = ao
    go_enter Try.func21, Try.ntmps21
    go_wp2_with fail
    go_ret
    exact ⟨_, rfl, HJ.out⟩
  · obtain ⟨⟨sb, so⟩, rfl⟩ : ∃ p, sa = some p := by
      cases sa with
      | some p => exact ⟨p, rfl⟩
      | none => have := h.nil rfl; simp at this; omega
    obtain ⟨c, h1, h2, h3⟩ := h.row sb so rfl (by show 0 < sc; omega)
    simp only at h2 hu2
    have h0i : ¬ (sl : Int) = 0 := by omega
    simp only [Option.map_some]
    have HL := hide (And.intro hsl (And.intro hul (And.intro hur hsr)))
    have HN := hide hnews
    have H1 := hide (And.intro h1 (And.intro h2 h3))
    clear h hu hun hu1 hu2 hu3 hnews h1 h2 h3 hsl hul hur hsr
    go_enter Try.func21, Try.ntmps21
    go_wp2_with (at_builtin; refine wpList_append_arg _ rfl _ _ 49 rfl 52 i2 _ 2 16 undParties hi2 hy0 hy1 hy2 rfl (by decide) sb so sl sc (pcells l) rfl (by rw [pcells_length, HL.out.1]) (fun j v hv => ?_) ⟨ub, uo, none⟩ ul uc (pcells m) rfl (by rw [pcells_length, HL.out.2.1]) HN.out (fun v hv => pcells_one hv) (fun hr j hj => ?_) (by have := HL.out; unfold maxLen; omega) (by have := HL.out; omega) (fun hr => ?_) (fun hr v' w' q1 q2 => ?_))
    · rw [cell_of_heap H1.out.1]
      exact H1.out.2.2 j v hv
    · rw [pcells_length, HL.out.2.1] at hj
      have h2 := H1.out.2.1
      refine ⟨?_, by simp [World.frozen?, H1.out.1]⟩
      rw [cell_of_heap H1.out.1, Array.getElem?_eq_getElem (by omega)]
      rfl
    · have HJ : Hid (Joined w ⟨some (sb, so), sl, sc⟩ ⟨some (ub, uo), ul, uc⟩ l m (.slice (some ⟨sb, so, none⟩) (sl + ul) sc) (w.setCells sb (so + sl * 2) (pcells m))) := hide (by
        have h1 := H1.out.1
        have h2 := H1.out.2.1
        have hlen : (pcells m).length = ul * 2 := by rw [pcells_length, HL.out.2.1]
        obtain ⟨c', k1, k2, k3, k4⟩ := setCells_row sb (pcells m) (so + sl * 2) w c h1 (by omega)
        refine ⟨⟨some (sb, so), sl + ul, sc⟩, rfl, ⟨by have := HL.out; simp; omega, hr, (fun e => by cases e), fun b off hb hc => ?_⟩, setCells_st _ sb so (pcells m) rfl _ w c h1 (by omega) (by simp only; omega) (by simp only; omega) (by simp only; omega), fun b i hb => ?_⟩
        · cases hb
          refine ⟨c', k1, by simp only; omega, fun j v hv => ?_⟩
          rw [pcells_append, List.getElem?_append] at hv
          split at hv
          · rename_i hj
            rw [pcells_length, HL.out.1] at hj
            rw [k3 _ (by omega)]
            exact H1.out.2.2 j v hv
          · rename_i hj
            rw [pcells_length, HL.out.1] at hj hv
            have := k4 (j - sl * 2) v hv
            rw [show so + sl * 2 + (j - sl * 2) = so + j by omega] at this
            exact this
        · obtain ⟨off, e1, e2, e3⟩ := hb
          exact .inl ⟨off, e1, e2, e3⟩)
      generalize w.setCells sb (so + sl * 2) (pcells m) = w' at *
      clear H1 HN HL HH HU
      go_wp2_with fail
      go_ret
      exact ⟨_, rfl, HJ.out⟩
    · rw [← pcells_append] at q1
      have HJ : Hid (Joined w ⟨some (sb, so), sl, sc⟩ ⟨some (ub, uo), ul, uc⟩ l m v' w') := hide (by
        obtain ⟨r, e1, e2, e3, e4⟩ := ownsRow_qv q1
        exact ⟨r, e1, e2, St.of ((Turned.refl _ _).grown q2 (fun k hk => by cases hk)), fun b i hb => .inr (.inr (e4 b i hb))⟩)
      clear H1 HN HL HH HU q1 q2
      go_wp2_with fail
      go_ret
      exact ⟨_, rfl, HJ.out⟩
/-- An append whose run is known. -/
theorem wpList_append_eq {w w' : World} {ops : Array Oper} {rest : List Oper} {o : Oper} {a : Act} {Q : Exit → Act → World → Prop} (hg : o.guard = none) (s x : Operand) (hop : o.op = Op.call { callee := Callee.builtin Builtin.append, args := #[s, x], argTypes := #[49, 49] }) (sv xv r : Value) (hs : a.eval s = sv) (hx : a.eval x = xv)
    (hrun : ∀ ty, (Builtin.append_ #[49, 49] ty #[sv, xv]).run Try.prog w = .ok r w') (hK : wpList Try.prog ops Q rest (a.put o.dst r) w') : wpList Try.prog ops Q (o :: rest) a w := by
  refine wpList_plain hg fun K hK' => ?_
  unfold Oper.wp
  simp [execOp, hop, resolve, invoke, builtin, hs, hx, hrun, Result.andThen]
  exact hK' _ _ hK
set_option maxRecDepth 100000 in
/-- join with nobody. -/
theorem join_none (s u : Sv) (l : List (Int × Int)) (w : World) (h : Qv w s l) (hu : Qv w u []) :
    Calls Try.prog 21 #[s.val, u.val] w fun e w' => ∃ v, e = .returned v ∧ Joined w s u l [] v w' := by
  have HH := hide h
  have HU := hide hu
  have hul : u.len = 0 := hu.len.symm
  by_cases h0 : s.len = 0
  · have hl0 : l = [] := List.eq_nil_of_length_eq_zero (by rw [h.len]; exact h0)
    have HJ : Hid (Joined w s u l [] u.val w) := hide ⟨u, rfl, by rw [hl0]; exact HU.out, St.of (Turned.refl _ _), fun b i hb => .inr (.inl hb)⟩
    have e1 : s.val = .slice s.addr 0 s.cap := by unfold Sv.val; rw [h0]
    rw [e1]
    generalize s.addr = sa at *
    generalize s.cap = sc at *
    generalize u.val = uv at *
    clear h hu hul h0 e1
    go_enter Try.func21, Try.ntmps21
    go_wp2_with fail
    go_ret
    exact ⟨_, rfl, HJ.out⟩
  · obtain ⟨i2, hi2, hi0⟩ := Option.map_eq_some_iff.1 partyInfo
    simp only [Prod.mk.injEq] at hi0
    obtain ⟨hy0, hy1, hy2⟩ := hi0
    have h0i : ¬ (s.len : Int) = 0 := by omega
    have hr := h.room
    obtain ⟨⟨sb, so⟩, hsa⟩ : ∃ p, s.at_ = some p := by
      cases e : s.at_ with
      | some p => exact ⟨p, rfl⟩
      | none => have := h.nil e; omega
    have hsrc : Src Try.prog i2.size 49 u.val 0 [] w := by
      unfold Sv.val
      rw [hul]
      cases ha : u.addr with
      | none => exact Src.ofNil w undParties _
      | some a => exact Src.ofSlice w undParties a 0 _ [] (by simp) (fun j v hv => by simp at hv) (fun v hv => by cases hv)
    have e1 : s.val = .slice (some ⟨sb, so, none⟩) s.len s.cap := by unfold Sv.val Sv.addr; rw [hsa]; rfl
    have hap : ∀ ty, (Builtin.append_ #[49, 49] ty #[.slice (some ⟨sb, so, none⟩) s.len s.cap, u.val]).run Try.prog w = .ok (.slice (some ⟨sb, so, none⟩) s.len s.cap) w := fun ty =>
      run_append_room_src w 49 49 ty 52 i2 undParties hi2 sb so s.len s.cap u.val 0 [] hsrc (by omega) (fun j hj => by simp at hj) (fun j hj => by simp at hj)
    have HJ : Hid (Joined w s u l [] (.slice (some ⟨sb, so, none⟩) s.len s.cap) w) := hide ⟨s, e1.symm, by rw [List.append_nil]; exact HH.out, St.of (Turned.refl _ _), fun b i hb => .inl hb⟩
    rw [e1]
    generalize s.len = sl at *
    generalize s.cap = sc at *
    generalize u.val = uv at *
    clear h hu hul h0 e1 hsrc hr hsa
    go_enter Try.func21, Try.ntmps21
    go_wp2_with (at_builtin; refine wpList_append_eq rfl _ _ rfl _ _ _ rfl rfl hap ?_)
    go_wp2_with fail
    go_ret
    exact ⟨_, rfl, HJ.out⟩
/-- join. -/
theorem join_all (s u : Sv) (l m : List (Int × Int)) (w : World) (h : Qv w s l) (hu : Qv w u m) (hb : l.length + m.length ≤ 1000) :
    Calls Try.prog 21 #[s.val, u.val] w fun e w' => ∃ v, e = .returned v ∧ Joined w s u l m v w' := by
  cases m with
  | nil => exact join_none s u l w h hu
  | cons x m => exact join_any s u l (x :: m) w h hu (by simp) hb
/-- The first n of a slice, and the rest. -/
def Sv.fst (s : Sv) (n : Nat) : Sv := ⟨s.at_, n, n⟩
def Sv.rst (s : Sv) (n : Nat) : Sv := ⟨if s.cap = n then s.at_ else s.at_.map (fun p => (p.1, p.2 + n * 2)), s.len - n, s.cap - n⟩
theorem sizeParty (w : World) : ((sizeOf (Try.prog.elem 49)).run Try.prog w) = .ok 2 w := by kernel_rfl
theorem undParties' : Try.prog.underlying 49 = some (.slice (Try.prog.elem 49)) := by kernel_rfl
theorem run_fst (s : Sv) (n : Nat) (hn : n ≤ s.cap) (w : World) : (Instr.slice 49 s.val none (some (.int .i64 (n : Int))) (some (.int .i64 (n : Int)))).run Try.prog w = .ok (s.fst n).val w := by
  unfold Sv.val
  rw [run_slice_hm (P := Try.prog) w 49 s.addr s.len s.cap undParties' .i64 .i64 (n : Int) (n : Int) (by omega) (by omega) (by omega), sizeParty]
  show Result.ok _ w = Result.ok _ w
  congr 1
  unfold sliced Sv.fst Sv.addr
  simp only [Int.toNat_natCast, Nat.sub_zero, Nat.zero_mul]
  congr 1
  split
  · rfl
  · cases s.at_ <;> simp [Addr.add]
theorem run_rst (s : Sv) (n : Nat) (hn : n ≤ s.len) (w : World) : (Instr.slice 49 s.val (some (.int .i64 (n : Int))) none none).run Try.prog w = .ok (s.rst n).val w := by
  unfold Sv.val
  rw [run_slice_l (P := Try.prog) w 49 s.addr s.len s.cap undParties' .i64 (n : Int) (by omega) (by omega), sizeParty]
  show Result.ok _ w = Result.ok _ w
  congr 1
  unfold sliced Sv.rst Sv.addr
  simp only [Int.toNat_natCast]
  congr 1
  split
  · rfl
  · cases s.at_ <;> simp [Addr.add]
theorem Qv.fst {w : World} {s : Sv} {l : List (Int × Int)} (h : Qv w s l) {n : Nat} (hn : n ≤ s.len) : Qv w (s.fst n) (l.take n) := by
  have h1 := h.room
  have h2 := h.len
  refine ⟨by show (l.take n).length = n; rw [List.length_take]; omega, Nat.le_refl _, fun e => ?_, fun b off hb hc => ?_⟩
  · have := h.nil e
    show n = 0
    omega
  · have hc' : 0 < n := hc
    obtain ⟨c, k1, k2, k3⟩ := h.row b off hb (by omega)
    refine ⟨c, k1, by show off + 2 * n ≤ _; omega, fun j u hu => ?_⟩
    rw [pcells_take] at hu
    exact k3 j u (by rw [List.getElem?_take] at hu; split at hu; exact hu; cases hu)
theorem Qv.rst {w : World} {s : Sv} {l : List (Int × Int)} (h : Qv w s l) {n : Nat} (hn : n ≤ s.len) : Qv w (s.rst n) (l.drop n) := by
  have h1 := h.room
  have h2 := h.len
  unfold Sv.rst
  refine ⟨by rw [List.length_drop]; simp only; omega, by simp only; omega, fun e => ?_, fun b off hb hc => ?_⟩
  · simp only at e ⊢
    split at e
    · omega
    · cases ha : s.at_ with
      | none => have := h.nil ha; omega
      | some p => rw [ha] at e; cases e
  · simp only at hb hc ⊢
    rw [if_neg (by omega)] at hb
    obtain ⟨p, hp, e⟩ := Option.map_eq_some_iff.1 hb
    obtain ⟨p1, p2⟩ := p
    simp only [Prod.mk.injEq] at e
    obtain ⟨rfl, rfl⟩ := e
    obtain ⟨c, k1, k2, k3⟩ := h.row p1 p2 hp (by omega)
    refine ⟨c, k1, by omega, fun j u hu => ?_⟩
    rw [pcells_drop, List.getElem?_drop] at hu
    rw [show p2 + n * 2 + j = p2 + (n * 2 + j) by omega]
    exact k3 _ u hu
theorem inR_fst {s : Sv} {n b i : Nat} (hn : n ≤ s.cap) (h : InR (s.fst n) b i) : InR s b i := by
  obtain ⟨off, h1, h2, h3⟩ := h
  exact ⟨off, h1, h2, by have : i < off + 2 * n := h3; omega⟩
theorem inR_rst {s : Sv} {n b i : Nat} (hn : n ≤ s.cap) (h : InR (s.rst n) b i) : InR s b i ∧ ∃ off, s.at_ = some (b, off) ∧ off + n * 2 ≤ i := by
  obtain ⟨off, h1, h2, h3⟩ := h
  unfold Sv.rst at h1 h3
  simp only at h1 h3
  by_cases e : s.cap = n
  · omega
  · rw [if_neg e] at h1
    obtain ⟨p, hp, e2⟩ := Option.map_eq_some_iff.1 h1
    obtain ⟨p1, p2⟩ := p
    simp only [Prod.mk.injEq] at e2
    obtain ⟨rfl, rfl⟩ := e2
    exact ⟨⟨p2, hp, by omega, by omega⟩, p2, hp, h2⟩
theorem sep_cut (s : Sv) {n : Nat} (hn : n ≤ s.cap) : Sep (s.fst n) (s.rst n) := fun b i h1 h2 => by
  obtain ⟨_, off, h3, h4⟩ := inR_rst hn h2
  obtain ⟨off', k1, k2, k3⟩ := h1
  have k1' : s.at_ = some (b, off') := k1
  rw [h3] at k1'
  cases k1'
  have : i < off + 2 * n := k3
  omega
set_option maxRecDepth 100000 in
/-- cut. -/
theorem cut_any (s : Sv) (n : Nat) (w : World) (hn : n ≤ s.len) (hr : s.len ≤ s.cap) :
    Calls Try.prog 35 #[s.val, .int .i64 (n : Int)] w fun e w' => e = .returned (.tuple #[(s.fst n).val, (s.rst n).val]) ∧ ∃ m, w' = w.drewN m := by
  have h1 := run_fst s n (by omega)
  have h2 := run_rst s n hn
  obtain ⟨v, hv⟩ : ∃ v, v = s.val := ⟨_, rfl⟩
  obtain ⟨va, hva⟩ : ∃ va, va = (s.fst n).val := ⟨_, rfl⟩
  obtain ⟨vb, hvb⟩ : ∃ vb, vb = (s.rst n).val := ⟨_, rfl⟩
  rw [← hv, ← hva] at h1
  rw [← hv, ← hvb] at h2
  rw [← hv, ← hva, ← hvb]
  clear hv hva hvb hn hr
  go_enter Try.func35, Try.ntmps35
  go_wp2_with fail
  go_quiet (fail)
  go_wp2_with fail
  go_ret2
  exact ⟨rfl, _, rfl⟩
end Go.Proofs.Ytlbcbphkgaoliab

/-
  Texts of the proof, several in one: MarkAppend, MarkRead, MarkPush, MarkStep, MarkWalk, MarkNew.
-/
import Derived.Test.YtgbclfhgpkmcnaaGreatDoorPack32
import Derived.ArgAppend
import Derived.Deep.AppendSrc
import Derived.Deep.AppendLies
import Derived.Laws.AppendOwnNone
import Derived.Test.YtgbclfhgpkmcnaaGreatDoorPack33
import Derived.Test.YtgbclfhgpkmcnaaGreatDoorPack25
/-
  A word is put behind those of a slice of one's own ('run_append_sl', 'step_append_sl', 'wpList_append_sl'). No Go is walked here.
-/
namespace Go.Proofs.YtgbclfhgpkmcnaaGreatDoor
open Go.RowKit
set_option linter.unusedVariables false

theorem hset_at {e : TypeId} {fr : Nat × Nat} (b : Nat) (vs : List Value) : ∀ (o : Nat) (w : World) (c : Array Value), w.heap[b]? = some (.cells c e fr) → ∃ c', (w.setCells b o vs).heap[b]? = some (.cells c' e fr) ∧ c'.size = c.size := by
  induction vs with
  | nil => intro o w c h; exact ⟨c, h, rfl⟩
  | cons v vs ih =>
    intro o w c h
    obtain ⟨c', h1, h2⟩ := ih (o + 1) (w.setCell ⟨b, o, none⟩ v) _ (heap_setCell_at w b o c e fr h v)
    exact ⟨c', h1, by rw [h2]; simp⟩
theorem turned_sets {S : List Nat} {a w : World} (h : Turned S a w) (b o : Nat) (vs : List Value) (hb : b ∈ S ∨ a.heap.size ≤ b) : Turned S a (w.setCells b o vs) := by
  induction vs generalizing o w with
  | nil => exact h
  | cons v vs ih => exact ih (h.setCell (p := ⟨b, o, none⟩) hb v) (o + 1)
theorem Sl.of {B : Nat} {w : World} {v : Value} {n : Nat} {T : List Int} (h : w.ownsRow B 2 1 v n (T.map (Value.int .i64))) (hn : 0 < n) : ∃ b cap, Sl 2 w v T [b] ∧ B ≤ b ∧ v = .slice (some ⟨b, 0, none⟩) n cap := by
  have hl : T.length = n := by simpa using h.1
  rcases h.2 with ⟨hv, h0⟩ | ⟨g, cap, cur, hv, hg, hh, hc, _, hsz, ht⟩
  · omega
  · refine ⟨g, cap, .inr ⟨g, 0, cap, cur, rfl, by rw [hv, hl], hh, by omega, by simp at hsz; omega, fun i x hx => ?_⟩, hg, hv⟩
    rw [Nat.zero_add, cell_of_heap hh]
    have h1 : (T.map (Value.int .i64))[i]? = some (.int .i64 x) := by rw [List.getElem?_map, hx]; rfl
    rw [← ht, List.getElem?_take] at h1
    split at h1
    · simpa using h1
    · cases h1

theorem run_append_sl (w : World) (ty : TypeId) (hv : Value) (T : List Int) (y : Int) (g : List Nat) (h : Sl 2 w hv T g) (sb : Nat) (hX : w.cell? ⟨sb, 0, none⟩ = some (.int .i64 y)) (hbd : T.length ≤ 2000000) :
    ∃ b off cap w', (Builtin.append_ #[30, 30] ty #[hv, .slice (some ⟨sb, 0, none⟩) 1 1]).run Tryz.prog w = .ok (.slice (some ⟨b, off, none⟩) (T.length + 1) cap) w' ∧ Sl 2 w' (.slice (some ⟨b, off, none⟩) (T.length + 1) cap) (T ++ [y]) [b] ∧ (b ∈ g ∨ w.heap.size ≤ b) ∧ Turned g w w' := by
  have und : Tryz.prog.underlying 30 = some (.slice 2) := by kernel_rfl
  obtain ⟨i2, hi2, hi0⟩ := Option.map_eq_some_iff.1 Tryz.info2
  simp only [Prod.mk.injEq] at hi0
  obtain ⟨hy0, hy1, hy2⟩ := hi0
  have hnews : ∀ j u, [Value.int .i64 y][j]? = some u → w.cell? (Addr.add ⟨sb, 0, none⟩ j) = some u := fun j u hu => by
    cases j with
    | zero => simp at hu; subst hu; exact hX
    | succ j => simp at hu
  rcases h with ⟨rfl, rfl, rfl⟩ | ⟨gb, off, cp, c, rfl, rfl, hh, hcp, hsz, hT⟩
  · obtain ⟨v', w', hr, h2, h3, h4, h5⟩ := run_append_own_at (P := Tryz.prog) w w.heap.size 30 ty 2 i2 _ 1 8 und hi2 hy0 hy1 hy2 rfl (by decide) (.slice none 0 0) 0 [] (World.ownsRow_nil _ _ _ _) ⟨sb, 0, none⟩ 1 1 [.int .i64 y] rfl hnews (fun u hu => by simp at hu; subst hu; rfl) (by unfold maxLen; omega) (by omega) (Nat.le_refl _)
    obtain ⟨b, cap, q1, q2, rfl⟩ := Sl.of (T := [y]) (n := 1) h2 (by omega)
    exact ⟨b, 0, cap, w', hr, q1, .inr q2, (Turned.refl _ _).grown h3 (fun k hk => by simp [Value.ownBlock] at hk)⟩
  · by_cases hr : T.length + 1 ≤ cp
    · have hrun := run_append_room_cells (P := Tryz.prog) w 30 ty 2 i2 und hi2 gb off T.length cp ⟨sb, 0, none⟩ 1 1 [.int .i64 y] (by rw [hy1]; rfl) hnews (fun u hu => by simp at hu; subst hu; rfl) hr (fun j hj => ?_) (fun j hj => ?_)
      · rw [hy1, Nat.mul_one] at hrun
        obtain ⟨c', h1, h2⟩ := hset_at gb [Value.int .i64 y] (off + T.length) w c hh
        refine ⟨gb, off, cp, _, hrun, .inr ⟨gb, off, cp, c', rfl, by simp, h1, by simp; omega, by omega, fun i z hz => ?_⟩, .inl (by simp), turned_sets (Turned.refl _ _) _ _ _ (by simp)⟩
        rw [List.getElem?_append] at hz
        split at hz
        · rename_i hi
          rw [World.cell?_setCells_out _ _ _ _ _ (fun _ _ => .inl (by show off + i < off + T.length; omega))]
          exact hT i z hz
        · rename_i hi
          have hj : i - T.length < 1 := by have := (List.getElem?_eq_some_iff.1 hz).1; simpa using this
          have hin := World.cell?_setCells_in gb [Value.int .i64 y] (off + T.length) w (fun j hj => by
            rw [cell_of_heap hh]
            simp at hj
            rw [Array.getElem?_eq_getElem (by omega)]
            rfl) (i - T.length) (by simpa using hj)
          rw [show off + T.length + (i - T.length) = off + i by omega] at hin
          rw [hin]
          have e0 : i = T.length := by omega
          subst e0
          simp at hz
          subst hz
          simp
      · simp at hj
        rw [cell_of_heap hh, Array.getElem?_eq_getElem (by rw [hy1]; omega)]
        rfl
      · simp [World.frozen?, hh]
    · obtain ⟨v', w', hrun, r1, r2⟩ := run_append_arg_grows (P := Tryz.prog) w 30 ty 2 i2 _ 1 8 und hi2 hy0 hy1 hy2 rfl (by decide) ⟨gb, off, none⟩ T.length cp (T.map (Value.int .i64)) (by simp) (fun j u hj => by
        rw [Addr.add_lit]
        rw [List.getElem?_map] at hj
        obtain ⟨z, hz, rfl⟩ := Option.map_eq_some_iff.1 hj
        exact hT j z hz) ⟨sb, 0, none⟩ 1 1 [.int .i64 y] rfl hnews (by omega) (by unfold maxLen; omega) (by omega)
      rw [show T.map (Value.int .i64) ++ [Value.int .i64 y] = (T ++ [y]).map (Value.int .i64) by simp] at r1
      obtain ⟨b, cap, q1, q2, rfl⟩ := Sl.of r1 (by omega)
      exact ⟨b, 0, cap, w', hrun, q1, .inr q2, (Turned.refl _ _).grown r2 (fun k hk => by cases hk)⟩

/-- In a region that draws its order. -/
theorem step_append_sl (w : World) {ops : Array Oper} {o : Oper} {a : Act} {K : Act → World → Prop} {Q : Exit → Act → World → Prop} {E : Prop} (hgd : o.guard = none) (s x : Operand)
    (ho : o.op = .call { callee := .builtin .append, args := #[s, x], argTypes := #[30, 30] }) (hv : Value) (T : List Int) (y : Int) (g : List Nat) (hs : a.eval s = hv) (h : Sl 2 w hv T g) (sb : Nat) (hx : a.eval x = .slice (some ⟨sb, 0, none⟩) 1 1) (hX : w.cell? ⟨sb, 0, none⟩ = some (.int .i64 y)) (hbd : T.length ≤ 2000000)
    (hK : ∀ b off cap w', Sl 2 w' (.slice (some ⟨b, off, none⟩) (T.length + 1) cap) (T ++ [y]) [b] → (b ∈ g ∨ w.heap.size ≤ b) → Turned g w w' → K (a.put o.dst (.slice (some ⟨b, off, none⟩) (T.length + 1) cap)) w') :
    if Region.wanted o (yielded ops a.tmps) = true then Oper.wp Tryz.prog o a w K Q else E := by
  have hw : Region.wanted o (yielded ops a.tmps) = true := by simp [Region.wanted, hgd]
  rw [if_pos hw]
  obtain ⟨b, off, cap, w', hr, h2, h3, h4⟩ := run_append_sl w o.type hv T y g h sb hX hbd
  unfold Oper.wp execOp
  simp only [ho, resolve, invoke, builtin, Sem.run_bind, Sem.run_pure, Result.andThen_ok, List.map_toArray, List.map_cons, List.map_nil, hs, hx, hr]
  exact hK b off cap w' h2 h3 h4
/-- At the list of a plain region's operations. -/
theorem wpList_append_sl (w : World) {ops : Array Oper} {rest : List Oper} {o : Oper} {a : Act} {K : Exit → Act → World → Prop} (hg : o.guard = none) (s x : Operand)
    (ho : o.op = .call { callee := .builtin .append, args := #[s, x], argTypes := #[30, 30] }) (hv : Value) (T : List Int) (y : Int) (g : List Nat) (hs : a.eval s = hv) (h : Sl 2 w hv T g) (sb : Nat) (hx : a.eval x = .slice (some ⟨sb, 0, none⟩) 1 1) (hX : w.cell? ⟨sb, 0, none⟩ = some (.int .i64 y)) (hbd : T.length ≤ 2000000)
    (hK : ∀ b off cap w', Sl 2 w' (.slice (some ⟨b, off, none⟩) (T.length + 1) cap) (T ++ [y]) [b] → (b ∈ g ∨ w.heap.size ≤ b) → Turned g w w' → wpList Tryz.prog ops K rest (a.put o.dst (.slice (some ⟨b, off, none⟩) (T.length + 1) cap)) w') : wpList Tryz.prog ops K (o :: rest) a w := by
  refine wpList_plain hg fun K' hK' => ?_
  obtain ⟨b, off, cap, w', hr, h2, h3, h4⟩ := run_append_sl w o.type hv T y g h sb hX hbd
  unfold Oper.wp execOp
  simp only [ho, resolve, invoke, builtin, Sem.run_bind, Sem.run_pure, Result.andThen_ok, List.map_toArray, List.map_cons, List.map_nil, hs, hx, hr]
  exact hK' _ _ (hK b off cap w' h2 h3 h4)
end Go.Proofs.YtgbclfhgpkmcnaaGreatDoor

/-
  Steps of a worker of package mark: a reference of the object that it scans is read (readRef). (Text by MarkRead.gen.py.)
-/
namespace Go.Proofs.YtgbclfhgpkmcnaaGreatDoor
open Go.RowKit
set_option linter.unusedVariables false
set_option linter.unusedSimpArgs false

theorem of_wanted {c : Prop} [Decidable c] {A B : Prop} (h : c) (hA : A) : if c then A else B := by rw [if_pos h]; exact hA
/-- An append as an operation by itself. -/
theorem wp_append_sl (w : World) {o : Oper} {a : Act} {K : Act → World → Prop} {Q : Exit → Act → World → Prop} (s x : Operand)
    (ho : o.op = .call { callee := .builtin .append, args := #[s, x], argTypes := #[30, 30] }) (hv : Value) (T : List Int) (y : Int) (g : List Nat) (hs : a.eval s = hv) (h : Sl 2 w hv T g) (sb : Nat) (hx : a.eval x = .slice (some ⟨sb, 0, none⟩) 1 1) (hX : w.cell? ⟨sb, 0, none⟩ = some (.int .i64 y)) (hbd : T.length ≤ 2000000)
    (hK : ∀ b off cap w', Sl 2 w' (.slice (some ⟨b, off, none⟩) (T.length + 1) cap) (T ++ [y]) [b] → (b ∈ g ∨ w.heap.size ≤ b) → Turned g w w' → K (a.put o.dst (.slice (some ⟨b, off, none⟩) (T.length + 1) cap)) w') : o.wp Tryz.prog a w K Q := by
  obtain ⟨b, off, cap, w', hr, h2, h3, h4⟩ := run_append_sl w o.type hv T y g h sb hX hbd
  unfold Oper.wp execOp
  simp only [ho, resolve, invoke, builtin, Sem.run_bind, Sem.run_pure, Result.andThen_ok, List.map_toArray, List.map_cons, List.map_nil, hs, hx, hr]
  exact hK b off cap w' h2 h3 h4
theorem Wm.hands0 {w : World} {b M a : Nat} {ds : List Nat} {x : MW} {B : List Nat} {gd cd : Nat} {hv kv pv : Value} {gh gp O : List Nat} {nx : MStp} {bl : Blk} {asked : Int} {po : Option Addr} {item : Int} {pf : Option Addr}
    (h : Wm w b M a ds x B gd cd hv kv pv gh gp O nx bl asked po item pf) {T : List Int} (hT : x.hands = T) {o : Obj} : Sl 2 (w.alloc o) hv T gh := by
  subst hT
  exact h.hands.turned ((Turned.refl [] w).alloc o) (by simp)

section
variable (P : MP) (I : Ids) (k : Nat) (ds : List Nat) (w : World) (S : MS) (b : Nat) (B : List Nat) (x : MW)
set_option maxRecDepth 100000 in
set_option maxHeartbeats 8000000 in
theorem readRef_any (i : Nat) (y : Int) (ps : List Int) (h : Cx P I k ds w S b B) (hx : WmX w b I.M I.a ds x B) (ha : x.act = .choose) (hh : x.hands = []) (hp : x.places = (i : Int) :: ps) (hy : P.hw[i]? = some y) (hs : 0 ≤ S.hs ∧ S.hs ≤ 1000000) (hse : 0 ≤ x.seen ∧ x.seen ≤ 1000000) (hpl : ps.length ≤ 1000000) :
    Calls Tryz.prog 74 #[.pointer (some ⟨b, 0, none⟩)] w fun e w' => e = .returned (.tuple #[]) ∧ Out P I k ds w b B { S with hs := S.hs + 1 } { x with hands := [y], places := ps, seen := x.seen + oneIf ps } w' := by
  obtain ⟨gd, cd, hv, kv, pv, gh, gp, O, nx, bl, asked, po, item, pf, hW⟩ := hx
  have hact := hW.act
  rw [ha] at hact
  obtain ⟨rfl, rfl⟩ := hact
  have hPl := hW.places
  rw [hp] at hPl
  obtain ⟨pb, off, cap, rfl, rfl, hcap, hcell, hrest⟩ := hPl.cons
  obtain ⟨off', ho, hsl⟩ := slice_one3 pb off ps.length cap hcap
  have f1 : w.cell? ⟨b, 1, none⟩ = some (.pointer (some ⟨I.M, 0, none⟩)) := hW.raw.f 1
  have f3 : w.cell? ⟨b, 3, none⟩ = some hv := hW.raw.f 3
  have f9 : w.cell? ⟨b, 9, none⟩ = some (.slice (some ⟨pb, off, none⟩) (ps.length + 1) cap) := hW.raw.f 9
  have gM := h.iface
  have hacc : wrap64 (S.hs + 1) = S.hs + 1 := w64 _ (by omega)
  have HP : Hid (∀ w', Turned [] w w' → Calls Tryz.prog 183 #[mv I.ph I.co I.len I.cap, .int .i64 i] w' fun e w'' => e = .returned (.int .i64 y) ∧ Cx P I k ds w'' { S with hs := S.hs + 1 } b B ∧ Wm w'' b I.M I.a ds x B gd cd hv kv (.slice (some ⟨pb, off, none⟩) (ps.length + 1) cap) gh [pb] [] .choose bl asked po item pf ∧ Turned [I.ph, I.qh] w' w'') := by
    intro w' t
    refine (refw_any w' I.ph I.qh I.len I.cap I.co P S.hs i y hy (h.keep0 t).hm).mono ?_
    rintro e w'' ⟨h1, h2, h3⟩
    rw [hacc] at h2
    exact ⟨h1, (h.keep0 t).read h3 h2, (h.keep0 t).readW (hW.keep0 t) h3, h3⟩
  have HPl : Hid (∀ w', Wm w' b I.M I.a ds x B gd cd hv kv (.slice (some ⟨pb, off, none⟩) (ps.length + 1) cap) gh [pb] [] .choose bl asked po item pf → w'.cell? ⟨pb, off, none⟩ = some (.int .i64 i)) := by
    intro w' W
    have h1 := W.places
    rw [hp] at h1
    obtain ⟨pb2, off2, cap2, e1, e2, _, e4, _⟩ := h1.cons
    cases e2
    exact e4
  have nb : I.M ≠ b := h.mkr.ne hW.raw
  have npb : pb ≠ b := by
    obtain ⟨c, fr, g1⟩ := hPl.types pb (by simp)
    exact ne_of_type g1 hW.raw (by decide)
  have HG : Hid (b ∉ gh ∧ I.M ∉ gh ∧ pb ∉ gh) := by
    obtain ⟨c1, fr1, g1⟩ := hPl.types pb (by simp)
    have hgh : Off w gh 88 ∧ Off w gh 83 ∧ Off w gh 3 := by
      refine ⟨fun z hz c fr g => ?_, fun z hz c fr g => ?_, fun z hz c fr g => ?_⟩ <;>
      · obtain ⟨c2, fr2, g2⟩ := hW.hands.types z hz
        rw [g2] at g
        cases g
    exact ⟨hgh.1.not hW.raw, hgh.2.1.not h.mkr, hgh.2.2.not g1⟩
  have HT : Hid (∀ (T : List Nat) (w' w'' : World), Turned T w' w'' → (w'.cell? ⟨b, 1, none⟩ = some (.pointer (some ⟨I.M, 0, none⟩)) ∧ w'.cell? ⟨I.M, 0, none⟩ = some (.iface 114 (mv I.ph I.co I.len I.cap)) ∧ w'.cell? ⟨b, 9, none⟩ = some (.slice (some ⟨pb, off, none⟩) (ps.length + 1) cap) ∧ w'.cell? ⟨pb, off, none⟩ = some (.int .i64 i)) → b ∉ T → I.M ∉ T → pb ∉ T → (w''.cell? ⟨b, 1, none⟩ = some (.pointer (some ⟨I.M, 0, none⟩)) ∧ w''.cell? ⟨I.M, 0, none⟩ = some (.iface 114 (mv I.ph I.co I.len I.cap)) ∧ w''.cell? ⟨b, 9, none⟩ = some (.slice (some ⟨pb, off, none⟩) (ps.length + 1) cap) ∧ w''.cell? ⟨pb, off, none⟩ = some (.int .i64 i))) := by
    rintro T w' w'' t ⟨h1, h2, h3, h4⟩ g1 g2 g3
    exact ⟨by rw [t.cell (p := ⟨b, 1, none⟩) (block_lt h1) g1]; exact h1, by rw [t.cell (p := ⟨I.M, 0, none⟩) (block_lt h2) g2]; exact h2, by rw [t.cell (p := ⟨b, 9, none⟩) (block_lt h3) g1]; exact h3, by rw [t.cell (p := ⟨pb, off, none⟩) (block_lt h4) g3]; exact h4⟩
  have HSt : Hid (∀ (w' : World) (v : Value), WmR w' b (mwCells .choose b I.M gd ds.length cd hv kv bl (.slice (some ⟨pb, off, none⟩) (ps.length + 1) cap) asked po item pf x.seen x.ended) → (w'.cell? ⟨b, 1, none⟩ = some (.pointer (some ⟨I.M, 0, none⟩)) ∧ w'.cell? ⟨I.M, 0, none⟩ = some (.iface 114 (mv I.ph I.co I.len I.cap)) ∧ w'.cell? ⟨b, 9, none⟩ = some (.slice (some ⟨pb, off, none⟩) (ps.length + 1) cap) ∧ w'.cell? ⟨pb, off, none⟩ = some (.int .i64 i)) → ((w'.setCell ⟨b, 3, none⟩ v).cell? ⟨b, 1, none⟩ = some (.pointer (some ⟨I.M, 0, none⟩)) ∧ (w'.setCell ⟨b, 3, none⟩ v).cell? ⟨I.M, 0, none⟩ = some (.iface 114 (mv I.ph I.co I.len I.cap)) ∧ (w'.setCell ⟨b, 3, none⟩ v).cell? ⟨b, 9, none⟩ = some (.slice (some ⟨pb, off, none⟩) (ps.length + 1) cap) ∧ (w'.setCell ⟨b, 3, none⟩ v).cell? ⟨pb, off, none⟩ = some (.int .i64 i))) := by
    rintro w' v hr ⟨h1, h2, h3, h4⟩
    exact ⟨keep_own hr (by decide) v h1, keep_far (Ne.symm nb) v h2, keep_own hr (by decide) v h3, keep_far (Ne.symm npb) v h4⟩
  have HF : Hid (∀ (w1 w3 : World) (b3 off3 cap3 : Nat), Cx P I k ds w1 { S with hs := S.hs + 1 } b B → Wm w1 b I.M I.a ds x B gd cd hv kv (.slice (some ⟨pb, off, none⟩) (ps.length + 1) cap) gh [pb] [] .choose bl asked po item pf → Turned [I.ph, I.qh] w.drew w1 → Sl 2 w3 (.slice (some ⟨b3, off3, none⟩) 1 cap3) [y] [b3] → (b3 ∈ gh ∨ (w1.alloc (.cells #[.int .i64 y] 2)).heap.size ≤ b3) → Turned gh (w1.alloc (.cells #[.int .i64 y] 2)) w3 →
      WmR (w3.setCell ⟨b, 3, none⟩ (.slice (some ⟨b3, off3, none⟩) 1 cap3)) b (mwCells .choose b I.M gd ds.length cd (.slice (some ⟨b3, off3, none⟩) 1 cap3) kv bl (.slice (some ⟨pb, off, none⟩) (ps.length + 1) cap) asked po item pf x.seen x.ended) ∧
      Calls Tryz.prog 80 #[.pointer (some ⟨b, 0, none⟩)] ((w3.setCell ⟨b, 3, none⟩ (.slice (some ⟨b3, off3, none⟩) 1 cap3)).setCell ⟨b, 9, none⟩ (.slice (some ⟨pb, off', none⟩) ps.length (cap - 1))) fun e w' => e = .returned (.tuple #[]) ∧ Out P I k ds w b B { S with hs := S.hs + 1 } { x with hands := [y], places := ps, seen := x.seen + oneIf ps } w') := by
    intro w1 w3 b3 off3 cap3 C1 W1 tt q1 q2 q3
    have tA : Turned [] w1 (w1.alloc (.cells #[.int .i64 y] 2)) := (Turned.refl _ _).alloc _
    have C2 := C1.keep0 tA
    have W2 := W1.keep0 tA
    have C3 := C2.keepH W2 q3
    obtain ⟨p1, p2, p3, p4, p5, p6⟩ := W2.partsH q3
    have hgB : ∀ z, z ∈ gh → z ∈ B := fun z hz => by rw [W1.own]; simp [hz]
    have T3 : Turned (I.all b B) w w3 := (((Turned.refl [] w).drew.mono (by simp)).trans (tt.mono (Ids.inAll (by simp)))).trans ((tA.mono (by simp)).trans (q3.mono (Ids.inAll (fun z hz => by simp [hgB z hz]))))
    have t4 : Turned [b] w3 (w3.setCell ⟨b, 3, none⟩ (.slice (some ⟨b3, off3, none⟩) 1 cap3)) := (Turned.refl _ _).setCell (by simp) _
    have raw4 := p3.set 3 (.slice (some ⟨b3, off3, none⟩) 1 cap3)
    have hpl2 := p5
    rw [hp] at hpl2
    obtain ⟨pb2, off2, cap2, e1, e2, _, _, hrest2⟩ := hpl2.cons
    cases e2
    have t5 : Turned [b] w3 ((w3.setCell ⟨b, 3, none⟩ (.slice (some ⟨b3, off3, none⟩) 1 cap3)).setCell ⟨b, 9, none⟩ (.slice (some ⟨pb, off', none⟩) ps.length (cap - 1))) := t4.setCell (by simp) _
    have raw5 := raw4.set 9 (.slice (some ⟨pb, off', none⟩) ps.length (cap - 1))
    refine ⟨raw4, ?_⟩
    refine (count_any _ b _ (some ⟨pb, off', none⟩) ps.length (cap - 1) x.seen hse raw5 rfl rfl).mono ?_
    rintro e w6 ⟨rfl, raw6, t6⟩
    have t36 : Turned [b] w3 w6 := t5.trans t6
    have lw1 : w.heap.size ≤ w1.heap.size := tt.size
    have hB : ∀ z, z ∈ [b3] ++ (kv.ownBlock.toList ++ ([pb] ++ [])) → z ∈ B ∨ w1.heap.size ≤ z := fun z hz => by
      have ho := W1.own
      simp only [List.append_nil, List.mem_append, List.mem_singleton] at hz
      rcases hz with rfl | hz | rfl
      · rcases q2 with g | g
        · exact .inl (hgB _ g)
        · right
          simp at g
          omega
      · left; rw [ho]; simp only [List.mem_append]; exact .inr (.inl hz)
      · left; rw [ho]; simp
    have C6 := (C3.keepb p3 t36).own' (B' := [b3] ++ (kv.ownBlock.toList ++ ([pb] ++ []))) (fun z hz => by
      rcases hB z hz with g | g
      · exact .inl g
      · have l1 := C1.hm.ltq
        have l2 := C1.sh.mem.ltq
        exact .inr ⟨by omega, by omega, by omega⟩)
    have hw := (Off.one p3 (e := 120) (by decide))
    obtain ⟨c8, fr8, hr8⟩ := p1
    have hgd := hw.not hr8
    have h14 : (if ps.length = 0 then (1 : Int) else 0) = oneIf ps := by unfold oneIf; cases ps <;> rfl
    rw [h14] at raw6
    refine ⟨rfl, _, C6, ⟨gd, cd, _, kv, _, [b3], [pb], [], .choose, bl, asked, po, item, pf, rfl, raw6, ⟨c8, fr8, t36.at hr8 hgd⟩, fun j d hj => by rw [t36.cell (p := ⟨gd, j, none⟩) (lt_of_heap hr8) hgd]; exact p2 j d hj, q1.turned t36 (fun z hz => ?_), p4.turned t36 (fun z hz => ?_), (hrest2 off' ho).turned t36 (fun z hz => ?_), (by show ActB _ _ _ _ _ _ _ _ _ _ x.act; rw [ha]; exact ⟨rfl, rfl⟩)⟩, fun z hz => ?_, T3.trans (t36.mono (Ids.inAll (by simp)))⟩
    · obtain ⟨c9, fr9, g9⟩ := q1.types z hz
      exact (Off.one p3 (by decide)).not g9
    · obtain ⟨c9, fr9, g9⟩ := p4.types z hz
      exact (Off.one p3 (by decide)).not g9
    · obtain ⟨c9, fr9, g9⟩ := p5.types z (by rw [← e1] at hz; exact hz)
      exact (Off.one p3 (by decide)).not g9
    · rcases hB z hz with g | g
      · exact .inl g
      · right; omega
  have HH := hide hh
  have hm := method_ref I.ph I.len I.cap I.co
  have hn := nil_ref I.ph I.len I.cap I.co
  clear h hW hPl hrest ha hp hy hs hse hacc hh
  generalize ps.length = n at *
  go_enter Tryz.func74, Tryz.ntmps74
  go_wp2_with fail
  refine wp_region_held_drew (S := (fun w' => w'.cell? ⟨b, 1, none⟩ = some (.pointer (some ⟨I.M, 0, none⟩)) ∧ w'.cell? ⟨I.M, 0, none⟩ = some (.iface 114 (mv I.ph I.co I.len I.cap)) ∧ w'.cell? ⟨b, 9, none⟩ = some (.slice (some ⟨pb, off, none⟩) (n + 1) cap) ∧ w'.cell? ⟨pb, off, none⟩ = some (.int .i64 i))) (by kernel_rfl) (by go_keep) (fun hHeld => ?_)
  refine wpAnyH_take (i := 0) (v := ?_) rfl (by kernel_rfl) (by kernel_rfl) (by kernel_rfl) (fun _ _ _ h => h) (Or.inl ⟨by rfl, ?_⟩) (by assumption) ?_
  rotate_left
  · (intro w hSw; (try dsimp only at hSw); go_simp; all_goals with_reducible rfl)
  (try simp only [List.getElem_toArray, List.getElem_cons_succ, List.getElem_cons_zero, Act.put, List.setIfInBounds_toArray, List.set_cons_zero, List.set_cons_succ])
  refine wpAnyH_take (i := 1) (v := ?_) rfl (by kernel_rfl) (by kernel_rfl) (by kernel_rfl) (fun _ _ _ h => h) (Or.inl ⟨by rfl, ?_⟩) (by assumption) ?_
  rotate_left
  · (intro w hSw; (try dsimp only at hSw); go_simp; all_goals with_reducible rfl)
  (try simp only [List.getElem_toArray, List.getElem_cons_succ, List.getElem_cons_zero, Act.put, List.setIfInBounds_toArray, List.set_cons_zero, List.set_cons_succ])
  refine wpAnyH_take (i := 2) (v := ?_) rfl (by kernel_rfl) (by kernel_rfl) (by kernel_rfl) (fun _ _ _ h => h) (Or.inl ⟨by rfl, ?_⟩) (by assumption) ?_
  rotate_left
  · (intro w hSw; (try dsimp only at hSw); go_simp; all_goals with_reducible rfl)
  (try simp only [List.getElem_toArray, List.getElem_cons_succ, List.getElem_cons_zero, Act.put, List.setIfInBounds_toArray, List.set_cons_zero, List.set_cons_succ])
  refine wpAnyH_take (i := 3) (v := ?_) rfl (by kernel_rfl) (by kernel_rfl) (by kernel_rfl) (fun _ _ _ h => h) (Or.inl ⟨by rfl, ?_⟩) (by assumption) ?_
  rotate_left
  · (intro w hSw; (try dsimp only at hSw); go_simp; all_goals with_reducible rfl)
  (try simp only [List.getElem_toArray, List.getElem_cons_succ, List.getElem_cons_zero, Act.put, List.setIfInBounds_toArray, List.set_cons_zero, List.set_cons_succ])
  refine wpAnyH_take (i := 5) (v := ?_) rfl (by kernel_rfl) (by kernel_rfl) (by kernel_rfl) (fun _ _ _ h => h) (Or.inl ⟨by rfl, ?_⟩) (by assumption) ?_
  rotate_left
  · (intro w hSw; (try dsimp only at hSw); go_simp; all_goals with_reducible rfl)
  (try simp only [List.getElem_toArray, List.getElem_cons_succ, List.getElem_cons_zero, Act.put, List.setIfInBounds_toArray, List.set_cons_zero, List.set_cons_succ])
  refine wpAnyH_take (i := 6) (v := ?_) rfl (by kernel_rfl) (by kernel_rfl) (by kernel_rfl) (fun _ _ _ h => h) (Or.inl ⟨by rfl, ?_⟩) (by assumption) ?_
  rotate_left
  · (intro w hSw; (try dsimp only at hSw); go_simp; all_goals with_reducible rfl)
  (try simp only [List.getElem_toArray, List.getElem_cons_succ, List.getElem_cons_zero, Act.put, List.setIfInBounds_toArray, List.set_cons_zero, List.set_cons_succ])
  refine wpAnyH_take (i := 7) (v := ?_) rfl (by kernel_rfl) (by kernel_rfl) (by kernel_rfl) (fun _ _ _ h => h) (Or.inl ⟨by rfl, ?_⟩) (by assumption) ?_
  rotate_left
  · (intro w hSw; (try dsimp only at hSw); go_simp; all_goals with_reducible rfl)
  (try simp only [List.getElem_toArray, List.getElem_cons_succ, List.getElem_cons_zero, Act.put, List.setIfInBounds_toArray, List.set_cons_zero, List.set_cons_succ])
  refine wpAnyH_take (i := 8) (v := ?_) rfl (by kernel_rfl) (by kernel_rfl) (by kernel_rfl) (fun _ _ _ h => h) (Or.inl ⟨by rfl, ?_⟩) (by assumption) ?_
  rotate_left
  · (intro w hSw; (try dsimp only at hSw); go_simp; all_goals with_reducible rfl)
  (try simp only [List.getElem_toArray, List.getElem_cons_succ, List.getElem_cons_zero, Act.put, List.setIfInBounds_toArray, List.set_cons_zero, List.set_cons_succ])
  refine wpAnyH_take (i := 9) (v := ?_) rfl (by kernel_rfl) (by kernel_rfl) (by kernel_rfl) (fun _ _ _ h => h) (Or.inl ⟨by rfl, ?_⟩) (by assumption) ?_
  rotate_left
  · (intro w hSw; (try dsimp only at hSw); go_simp; all_goals with_reducible rfl)
  (try simp only [List.getElem_toArray, List.getElem_cons_succ, List.getElem_cons_zero, Act.put, List.setIfInBounds_toArray, List.set_cons_zero, List.set_cons_succ])
  refine wpAnyH_take (i := 10) (v := ?_) rfl (by kernel_rfl) (by kernel_rfl) (by kernel_rfl) (fun _ _ _ h => h) (Or.inl ⟨by rfl, ?_⟩) (by assumption) ?_
  rotate_left
  · (intro w hSw; (try dsimp only at hSw); go_simp; all_goals with_reducible rfl)
  (try simp only [List.getElem_toArray, List.getElem_cons_succ, List.getElem_cons_zero, Act.put, List.setIfInBounds_toArray, List.set_cons_zero, List.set_cons_succ])
  refine wpAnyH_take (i := 11) (v := ?_) rfl (by kernel_rfl) (by kernel_rfl) (by kernel_rfl) (fun _ _ _ h => h) (Or.inl ⟨by rfl, ?_⟩) (by assumption) ?_
  rotate_left
  · (intro w hSw; (try dsimp only at hSw); go_simp; all_goals with_reducible rfl)
  (try simp only [List.getElem_toArray, List.getElem_cons_succ, List.getElem_cons_zero, Act.put, List.setIfInBounds_toArray, List.set_cons_zero, List.set_cons_succ])
  refine wpAnyH_take (i := 12) (v := ?_) rfl (by kernel_rfl) (by kernel_rfl) (by kernel_rfl) (fun _ _ _ h => h) (Or.inl ⟨by rfl, ?_⟩) (by assumption) ?_
  rotate_left
  · (intro w hSw; (try dsimp only at hSw); go_simp; all_goals with_reducible rfl)
  (try simp only [List.getElem_toArray, List.getElem_cons_succ, List.getElem_cons_zero, Act.put, List.setIfInBounds_toArray, List.set_cons_zero, List.set_cons_succ])
  refine wpAnyH_take (i := 13) (v := ?_) rfl (by kernel_rfl) (by kernel_rfl) (by kernel_rfl) (fun _ _ _ h => h) (Or.inl ⟨by rfl, ?_⟩) (by assumption) ?_
  rotate_left
  · (intro w hSw; (try dsimp only at hSw); go_simp; all_goals with_reducible rfl)
  (try simp only [List.getElem_toArray, List.getElem_cons_succ, List.getElem_cons_zero, Act.put, List.setIfInBounds_toArray, List.set_cons_zero, List.set_cons_succ])
  refine wpAnyH_take (i := 14) (v := ?_) rfl (by kernel_rfl) (by kernel_rfl) (by kernel_rfl) (fun _ _ _ h => h) (Or.inl ⟨by rfl, ?_⟩) (by assumption) ?_
  rotate_left
  · (intro w hSw; (try dsimp only at hSw); go_simp; all_goals with_reducible rfl)
  (try simp only [List.getElem_toArray, List.getElem_cons_succ, List.getElem_cons_zero, Act.put, List.setIfInBounds_toArray, List.set_cons_zero, List.set_cons_succ])
  refine wpAnyH_take (i := 15) (v := ?_) rfl (by kernel_rfl) (by kernel_rfl) (by kernel_rfl) (fun _ _ _ h => h) (Or.inl ⟨by rfl, ?_⟩) (by assumption) ?_
  rotate_left
  · (intro w hSw; (try dsimp only at hSw); go_simp; all_goals with_reducible rfl)
  (try simp only [List.getElem_toArray, List.getElem_cons_succ, List.getElem_cons_zero, Act.put, List.setIfInBounds_toArray, List.set_cons_zero, List.set_cons_succ])
  refine wpAnyH_take (i := 16) (v := ?_) rfl (by kernel_rfl) (by kernel_rfl) (by kernel_rfl) (fun _ _ _ h => h) (Or.inl ⟨by rfl, ?_⟩) (by assumption) ?_
  rotate_left
  · (intro w hSw; (try dsimp only at hSw); go_simp; all_goals with_reducible rfl)
  (try simp only [List.getElem_toArray, List.getElem_cons_succ, List.getElem_cons_zero, Act.put, List.setIfInBounds_toArray, List.set_cons_zero, List.set_cons_succ])
  refine wpAnyH_take (i := 17) (v := ?_) rfl (by kernel_rfl) (by kernel_rfl) (by kernel_rfl) (fun _ _ _ h => h) (Or.inl ⟨by rfl, ?_⟩) (by assumption) ?_
  rotate_left
  · (intro w hSw; (try dsimp only at hSw); go_simp; all_goals with_reducible rfl)
  (try simp only [List.getElem_toArray, List.getElem_cons_succ, List.getElem_cons_zero, Act.put, List.setIfInBounds_toArray, List.set_cons_zero, List.set_cons_succ])
  refine wpAnyH_take (i := 18) (v := ?_) rfl (by kernel_rfl) (by kernel_rfl) (by kernel_rfl) (fun _ _ _ h => h) (Or.inl ⟨by rfl, ?_⟩) (by assumption) ?_
  rotate_left
  · (intro w hSw; (try dsimp only at hSw); go_simp; all_goals with_reducible rfl)
  (try simp only [List.getElem_toArray, List.getElem_cons_succ, List.getElem_cons_zero, Act.put, List.setIfInBounds_toArray, List.set_cons_zero, List.set_cons_succ])
  refine wpAnyH_take (i := 19) (v := ?_) rfl (by kernel_rfl) (by kernel_rfl) (by kernel_rfl) (fun _ _ _ h => h) (Or.inl ⟨by rfl, ?_⟩) (by assumption) ?_
  rotate_left
  · (intro w hSw; (try dsimp only at hSw); go_simp; all_goals with_reducible rfl)
  (try simp only [List.getElem_toArray, List.getElem_cons_succ, List.getElem_cons_zero, Act.put, List.setIfInBounds_toArray, List.set_cons_zero, List.set_cons_succ])
  refine wpAnyH_ready (rs := [4, 20]) (by kernel_rfl) (by simp) ?_
  refine AllReadyH.cons rfl (fun K hK => ?_) ?_
  · (try simp only [List.getElem_toArray, List.getElem_cons_succ, List.getElem_cons_zero])
    go_simp
    refine hK.out _ _ ?_ (fun hHeld => ?_)
    · ((try dsimp only); assumption)
    clear hK K
    (try simp only [List.getElem_toArray, List.getElem_cons_succ, List.getElem_cons_zero, Act.put, List.setIfInBounds_toArray, List.set_cons_zero, List.set_cons_succ])
    refine wpAnyH_ready (rs := [20]) (by kernel_rfl) (by simp) ?_
    refine AllReadyH.cons rfl (fun K hK => ?_) AllReadyH.nil
    (try simp only [List.getElem_toArray, List.getElem_cons_succ, List.getElem_cons_zero])
    go_simp
    refine (HP.out _ (Turned.refl _ _).drew).mono ?_
    rintro e w1 ⟨rfl, C1, W1, tt⟩
    have hS1 : w1.cell? ⟨b, 1, none⟩ = some (.pointer (some ⟨I.M, 0, none⟩)) ∧ w1.cell? ⟨I.M, 0, none⟩ = some (.iface 114 (mv I.ph I.co I.len I.cap)) ∧ w1.cell? ⟨b, 9, none⟩ = some (.slice (some ⟨pb, off, none⟩) (n + 1) cap) ∧ w1.cell? ⟨pb, off, none⟩ = some (.int .i64 i) := ⟨W1.raw.f 1, C1.iface, W1.raw.f 9, HPl.out w1 W1⟩
    have y3 : w1.cell? ⟨b, 3, none⟩ = some hv := W1.raw.f 3
    have yz := W1.raw.fz 3
    have lb := W1.raw.lt
    have H2 := hide (And.intro C1 (And.intro W1 tt))
    clear tt C1 W1 HP
    refine hK.out _ _ ?_ (fun hHeld => ?_)
    · ((try dsimp only); exact hS1)
    clear hK K hS1
    (try simp only [List.getElem_toArray, List.getElem_cons_succ, List.getElem_cons_zero, Act.put, List.setIfInBounds_toArray, List.set_cons_zero, List.set_cons_succ])
    refine wpAnyH_ready (rs := [21]) (by kernel_rfl) (by simp) ?_
    refine AllReadyH.cons rfl (fun K hK => ?_) AllReadyH.nil
    (try simp only [List.getElem_toArray, List.getElem_cons_succ, List.getElem_cons_zero])
    go_simp
    refine hK.out _ _ ?_ (fun hHeld => ?_)
    · ((try dsimp only); exact HT.out [] w1 _ ((Turned.refl _ _).alloc _) hHeld (by simp) (by simp) (by simp))
    clear hK K
    (try simp only [List.getElem_toArray, List.getElem_cons_succ, List.getElem_cons_zero, Act.put, List.setIfInBounds_toArray, List.set_cons_zero, List.set_cons_succ])
    refine wpAnyH_ready (rs := [22]) (by kernel_rfl) (by simp) ?_
    refine AllReadyH.cons rfl (fun K hK => ?_) AllReadyH.nil
    (try simp only [List.getElem_toArray, List.getElem_cons_succ, List.getElem_cons_zero])
    refine of_wanted (by rfl) ?_
    refine wp_append_sl (w1.alloc (.cells #[.int .i64 y] 2)) (.tmp 6) (.tmp 23) ?_ hv [] y gh ?_ (H2.out.2.1.hands0 HH.out) w1.heap.size ?_ (cell_of_heap (heap_alloc_new w1 _) 0) (by simp) ?_
    · rfl
    · rfl
    · rfl
    intro b3 off3 cap3 w3 q1 q2 q3
    have hS3 := HT.out gh _ w3 q3 hHeld (HG.out.1) HG.out.2.1 HG.out.2.2
    have raw3 := (H2.out.2.1.raw.turned ((Turned.refl [] w1).alloc (.cells #[.int .i64 y] 2)) (by simp)).turned q3 HG.out.1
    have u3 : w3.cell? ⟨b, 3, none⟩ = some hv := raw3.f 3
    have uz := raw3.fz 3
    have H3 := hide (And.intro q1 (And.intro q2 (And.intro q3 raw3)))
    clear q1 q2 q3 raw3
    refine hK.out _ _ ?_ (fun hHeld => ?_)
    · ((try dsimp only); exact hS3)
    clear hK K hS3
    (try simp only [List.getElem_toArray, List.getElem_cons_succ, List.getElem_cons_zero, Act.put, List.setIfInBounds_toArray, List.set_cons_zero, List.set_cons_succ])
    refine wpAnyH_take (i := 23) (v := ?_) rfl (by kernel_rfl) (by kernel_rfl) (by kernel_rfl) (fun _ _ _ h => h) (Or.inl ⟨by rfl, ?_⟩) (by assumption) ?_
    rotate_left
    · (intro w hSw; (try dsimp only at hSw); go_simp; all_goals with_reducible rfl)
    (try simp only [List.getElem_toArray, List.getElem_cons_succ, List.getElem_cons_zero, Act.put, List.setIfInBounds_toArray, List.set_cons_zero, List.set_cons_succ])
    refine wpAnyH_take (i := 24) (v := ?_) rfl (by kernel_rfl) (by kernel_rfl) (by kernel_rfl) (fun _ _ _ h => h) (Or.inl ⟨by rfl, ?_⟩) (by assumption) ?_
    rotate_left
    · (intro w hSw; (try dsimp only at hSw); go_simp; all_goals with_reducible rfl)
    (try simp only [List.getElem_toArray, List.getElem_cons_succ, List.getElem_cons_zero, Act.put, List.setIfInBounds_toArray, List.set_cons_zero, List.set_cons_succ])
    refine wpAnyH_ready (rs := [25]) (by kernel_rfl) (by simp) ?_
    refine AllReadyH.cons rfl (fun K hK => ?_) AllReadyH.nil
    (try simp only [List.getElem_toArray, List.getElem_cons_succ, List.getElem_cons_zero])
    go_simp
    refine hK.out _ _ ?_ (fun hHeld => ?_)
    · ((try dsimp only); exact HSt.out w3 _ H3.out.2.2.2 hHeld)
    clear hK K
    (try simp only [List.getElem_toArray, List.getElem_cons_succ, List.getElem_cons_zero, Act.put, List.setIfInBounds_toArray, List.set_cons_zero, List.set_cons_succ])
    refine wpAnyH_done (by kernel_rfl) ?_ _
    have HR := hide (HF.out w1 w3 b3 off3 cap3 H2.out.1 H2.out.2.1 H2.out.2.2 H3.out.1 H3.out.2.1 H3.out.2.2.1)
    clear HT HSt HPl H2 H3 y3 yz u3 uz hHeld f1 f3 f9 gM hcell hm hn
    have z9 := HR.out.1.fz 9
    have g9 : (w3.setCell ⟨b, 3, none⟩ (.slice (some ⟨b3, off3, none⟩) 1 cap3)).cell? ⟨b, 9, none⟩ = some (.slice (some ⟨pb, off, none⟩) (n + 1) cap) := HR.out.1.f 9
    generalize w3.setCell ⟨b, 3, none⟩ (.slice (some ⟨b3, off3, none⟩) 1 cap3) = w4 at *
    go_wp2_with fail
    refine HR.out.2.mono ?_
    rintro e w5 ⟨rfl, hO⟩
    have HO := hide hO
    clear hO HR
    go_wp2_with fail
    first | refine bodyPost_end (results_none rfl _ _ _) rfl ?_ | refine bodyPost_ret (results_none rfl _ _ _) rfl ?_
    exact ⟨rfl, HO.out⟩
  · refine AllReadyH.cons rfl (fun K hK => ?_) AllReadyH.nil
    (try simp only [List.getElem_toArray, List.getElem_cons_succ, List.getElem_cons_zero])
    go_simp
    refine (HP.out _ (Turned.refl _ _).drew).mono ?_
    rintro e w1 ⟨rfl, C1, W1, tt⟩
    have hS1 : w1.cell? ⟨b, 1, none⟩ = some (.pointer (some ⟨I.M, 0, none⟩)) ∧ w1.cell? ⟨I.M, 0, none⟩ = some (.iface 114 (mv I.ph I.co I.len I.cap)) ∧ w1.cell? ⟨b, 9, none⟩ = some (.slice (some ⟨pb, off, none⟩) (n + 1) cap) ∧ w1.cell? ⟨pb, off, none⟩ = some (.int .i64 i) := ⟨W1.raw.f 1, C1.iface, W1.raw.f 9, HPl.out w1 W1⟩
    have y3 : w1.cell? ⟨b, 3, none⟩ = some hv := W1.raw.f 3
    have yz := W1.raw.fz 3
    have lb := W1.raw.lt
    have H2 := hide (And.intro C1 (And.intro W1 tt))
    clear tt C1 W1 HP
    refine hK.out _ _ ?_ (fun hHeld => ?_)
    · ((try dsimp only); exact hS1)
    clear hK K hS1
    (try simp only [List.getElem_toArray, List.getElem_cons_succ, List.getElem_cons_zero, Act.put, List.setIfInBounds_toArray, List.set_cons_zero, List.set_cons_succ])
    refine wpAnyH_ready (rs := [4, 21]) (by kernel_rfl) (by simp) ?_
    refine AllReadyH.cons rfl (fun K hK => ?_) ?_
    · (try simp only [List.getElem_toArray, List.getElem_cons_succ, List.getElem_cons_zero])
      go_simp
      refine hK.out _ _ ?_ (fun hHeld => ?_)
      · ((try dsimp only); assumption)
      clear hK K
      (try simp only [List.getElem_toArray, List.getElem_cons_succ, List.getElem_cons_zero, Act.put, List.setIfInBounds_toArray, List.set_cons_zero, List.set_cons_succ])
      refine wpAnyH_ready (rs := [21]) (by kernel_rfl) (by simp) ?_
      refine AllReadyH.cons rfl (fun K hK => ?_) AllReadyH.nil
      (try simp only [List.getElem_toArray, List.getElem_cons_succ, List.getElem_cons_zero])
      go_simp
      refine hK.out _ _ ?_ (fun hHeld => ?_)
      · ((try dsimp only); exact HT.out [] w1 _ ((Turned.refl _ _).alloc _) hHeld (by simp) (by simp) (by simp))
      clear hK K
      (try simp only [List.getElem_toArray, List.getElem_cons_succ, List.getElem_cons_zero, Act.put, List.setIfInBounds_toArray, List.set_cons_zero, List.set_cons_succ])
      refine wpAnyH_ready (rs := [22]) (by kernel_rfl) (by simp) ?_
      refine AllReadyH.cons rfl (fun K hK => ?_) AllReadyH.nil
      (try simp only [List.getElem_toArray, List.getElem_cons_succ, List.getElem_cons_zero])
      refine of_wanted (by rfl) ?_
      refine wp_append_sl (w1.alloc (.cells #[.int .i64 y] 2)) (.tmp 6) (.tmp 23) ?_ hv [] y gh ?_ (H2.out.2.1.hands0 HH.out) w1.heap.size ?_ (cell_of_heap (heap_alloc_new w1 _) 0) (by simp) ?_
      · rfl
      · rfl
      · rfl
      intro b3 off3 cap3 w3 q1 q2 q3
      have hS3 := HT.out gh _ w3 q3 hHeld (HG.out.1) HG.out.2.1 HG.out.2.2
      have raw3 := (H2.out.2.1.raw.turned ((Turned.refl [] w1).alloc (.cells #[.int .i64 y] 2)) (by simp)).turned q3 HG.out.1
      have u3 : w3.cell? ⟨b, 3, none⟩ = some hv := raw3.f 3
      have uz := raw3.fz 3
      have H3 := hide (And.intro q1 (And.intro q2 (And.intro q3 raw3)))
      clear q1 q2 q3 raw3
      refine hK.out _ _ ?_ (fun hHeld => ?_)
      · ((try dsimp only); exact hS3)
      clear hK K hS3
      (try simp only [List.getElem_toArray, List.getElem_cons_succ, List.getElem_cons_zero, Act.put, List.setIfInBounds_toArray, List.set_cons_zero, List.set_cons_succ])
      refine wpAnyH_take (i := 23) (v := ?_) rfl (by kernel_rfl) (by kernel_rfl) (by kernel_rfl) (fun _ _ _ h => h) (Or.inl ⟨by rfl, ?_⟩) (by assumption) ?_
      rotate_left
      · (intro w hSw; (try dsimp only at hSw); go_simp; all_goals with_reducible rfl)
      (try simp only [List.getElem_toArray, List.getElem_cons_succ, List.getElem_cons_zero, Act.put, List.setIfInBounds_toArray, List.set_cons_zero, List.set_cons_succ])
      refine wpAnyH_take (i := 24) (v := ?_) rfl (by kernel_rfl) (by kernel_rfl) (by kernel_rfl) (fun _ _ _ h => h) (Or.inl ⟨by rfl, ?_⟩) (by assumption) ?_
      rotate_left
      · (intro w hSw; (try dsimp only at hSw); go_simp; all_goals with_reducible rfl)
      (try simp only [List.getElem_toArray, List.getElem_cons_succ, List.getElem_cons_zero, Act.put, List.setIfInBounds_toArray, List.set_cons_zero, List.set_cons_succ])
      refine wpAnyH_ready (rs := [25]) (by kernel_rfl) (by simp) ?_
      refine AllReadyH.cons rfl (fun K hK => ?_) AllReadyH.nil
      (try simp only [List.getElem_toArray, List.getElem_cons_succ, List.getElem_cons_zero])
      go_simp
      refine hK.out _ _ ?_ (fun hHeld => ?_)
      · ((try dsimp only); exact HSt.out w3 _ H3.out.2.2.2 hHeld)
      clear hK K
      (try simp only [List.getElem_toArray, List.getElem_cons_succ, List.getElem_cons_zero, Act.put, List.setIfInBounds_toArray, List.set_cons_zero, List.set_cons_succ])
      refine wpAnyH_done (by kernel_rfl) ?_ _
      have HR := hide (HF.out w1 w3 b3 off3 cap3 H2.out.1 H2.out.2.1 H2.out.2.2 H3.out.1 H3.out.2.1 H3.out.2.2.1)
      clear HT HSt HPl H2 H3 y3 yz u3 uz hHeld f1 f3 f9 gM hcell hm hn
      have z9 := HR.out.1.fz 9
      have g9 : (w3.setCell ⟨b, 3, none⟩ (.slice (some ⟨b3, off3, none⟩) 1 cap3)).cell? ⟨b, 9, none⟩ = some (.slice (some ⟨pb, off, none⟩) (n + 1) cap) := HR.out.1.f 9
      generalize w3.setCell ⟨b, 3, none⟩ (.slice (some ⟨b3, off3, none⟩) 1 cap3) = w4 at *
      go_wp2_with fail
      refine HR.out.2.mono ?_
      rintro e w5 ⟨rfl, hO⟩
      have HO := hide hO
      clear hO HR
      go_wp2_with fail
      first | refine bodyPost_end (results_none rfl _ _ _) rfl ?_ | refine bodyPost_ret (results_none rfl _ _ _) rfl ?_
      exact ⟨rfl, HO.out⟩
    · refine AllReadyH.cons rfl (fun K hK => ?_) AllReadyH.nil
      (try simp only [List.getElem_toArray, List.getElem_cons_succ, List.getElem_cons_zero])
      go_simp
      refine hK.out _ _ ?_ (fun hHeld => ?_)
      · ((try dsimp only); exact HT.out [] w1 _ ((Turned.refl _ _).alloc _) hHeld (by simp) (by simp) (by simp))
      clear hK K
      (try simp only [List.getElem_toArray, List.getElem_cons_succ, List.getElem_cons_zero, Act.put, List.setIfInBounds_toArray, List.set_cons_zero, List.set_cons_succ])
      refine wpAnyH_ready (rs := [4]) (by kernel_rfl) (by simp) ?_
      refine AllReadyH.cons rfl (fun K hK => ?_) AllReadyH.nil
      (try simp only [List.getElem_toArray, List.getElem_cons_succ, List.getElem_cons_zero])
      go_simp
      refine hK.out _ _ ?_ (fun hHeld => ?_)
      · ((try dsimp only); assumption)
      clear hK K
      (try simp only [List.getElem_toArray, List.getElem_cons_succ, List.getElem_cons_zero, Act.put, List.setIfInBounds_toArray, List.set_cons_zero, List.set_cons_succ])
      refine wpAnyH_ready (rs := [22]) (by kernel_rfl) (by simp) ?_
      refine AllReadyH.cons rfl (fun K hK => ?_) AllReadyH.nil
      (try simp only [List.getElem_toArray, List.getElem_cons_succ, List.getElem_cons_zero])
      refine of_wanted (by rfl) ?_
      refine wp_append_sl (w1.alloc (.cells #[.int .i64 y] 2)) (.tmp 6) (.tmp 23) ?_ hv [] y gh ?_ (H2.out.2.1.hands0 HH.out) w1.heap.size ?_ (cell_of_heap (heap_alloc_new w1 _) 0) (by simp) ?_
      · rfl
      · rfl
      · rfl
      intro b3 off3 cap3 w3 q1 q2 q3
      have hS3 := HT.out gh _ w3 q3 hHeld (HG.out.1) HG.out.2.1 HG.out.2.2
      have raw3 := (H2.out.2.1.raw.turned ((Turned.refl [] w1).alloc (.cells #[.int .i64 y] 2)) (by simp)).turned q3 HG.out.1
      have u3 : w3.cell? ⟨b, 3, none⟩ = some hv := raw3.f 3
      have uz := raw3.fz 3
      have H3 := hide (And.intro q1 (And.intro q2 (And.intro q3 raw3)))
      clear q1 q2 q3 raw3
      refine hK.out _ _ ?_ (fun hHeld => ?_)
      · ((try dsimp only); exact hS3)
      clear hK K hS3
      (try simp only [List.getElem_toArray, List.getElem_cons_succ, List.getElem_cons_zero, Act.put, List.setIfInBounds_toArray, List.set_cons_zero, List.set_cons_succ])
      refine wpAnyH_take (i := 23) (v := ?_) rfl (by kernel_rfl) (by kernel_rfl) (by kernel_rfl) (fun _ _ _ h => h) (Or.inl ⟨by rfl, ?_⟩) (by assumption) ?_
      rotate_left
      · (intro w hSw; (try dsimp only at hSw); go_simp; all_goals with_reducible rfl)
      (try simp only [List.getElem_toArray, List.getElem_cons_succ, List.getElem_cons_zero, Act.put, List.setIfInBounds_toArray, List.set_cons_zero, List.set_cons_succ])
      refine wpAnyH_take (i := 24) (v := ?_) rfl (by kernel_rfl) (by kernel_rfl) (by kernel_rfl) (fun _ _ _ h => h) (Or.inl ⟨by rfl, ?_⟩) (by assumption) ?_
      rotate_left
      · (intro w hSw; (try dsimp only at hSw); go_simp; all_goals with_reducible rfl)
      (try simp only [List.getElem_toArray, List.getElem_cons_succ, List.getElem_cons_zero, Act.put, List.setIfInBounds_toArray, List.set_cons_zero, List.set_cons_succ])
      refine wpAnyH_ready (rs := [25]) (by kernel_rfl) (by simp) ?_
      refine AllReadyH.cons rfl (fun K hK => ?_) AllReadyH.nil
      (try simp only [List.getElem_toArray, List.getElem_cons_succ, List.getElem_cons_zero])
      go_simp
      refine hK.out _ _ ?_ (fun hHeld => ?_)
      · ((try dsimp only); exact HSt.out w3 _ H3.out.2.2.2 hHeld)
      clear hK K
      (try simp only [List.getElem_toArray, List.getElem_cons_succ, List.getElem_cons_zero, Act.put, List.setIfInBounds_toArray, List.set_cons_zero, List.set_cons_succ])
      refine wpAnyH_done (by kernel_rfl) ?_ _
      have HR := hide (HF.out w1 w3 b3 off3 cap3 H2.out.1 H2.out.2.1 H2.out.2.2 H3.out.1 H3.out.2.1 H3.out.2.2.1)
      clear HT HSt HPl H2 H3 y3 yz u3 uz hHeld f1 f3 f9 gM hcell hm hn
      have z9 := HR.out.1.fz 9
      have g9 : (w3.setCell ⟨b, 3, none⟩ (.slice (some ⟨b3, off3, none⟩) 1 cap3)).cell? ⟨b, 9, none⟩ = some (.slice (some ⟨pb, off, none⟩) (n + 1) cap) := HR.out.1.f 9
      generalize w3.setCell ⟨b, 3, none⟩ (.slice (some ⟨b3, off3, none⟩) 1 cap3) = w4 at *
      go_wp2_with fail
      refine HR.out.2.mono ?_
      rintro e w5 ⟨rfl, hO⟩
      have HO := hide hO
      clear hO HR
      go_wp2_with fail
      first | refine bodyPost_end (results_none rfl _ _ _) rfl ?_ | refine bodyPost_ret (results_none rfl _ _ _) rfl ?_
      exact ⟨rfl, HO.out⟩
end
end Go.Proofs.YtgbclfhgpkmcnaaGreatDoor

/-
  Steps of a worker of package mark: a step of a push; what finds no room is kept (push). (Text by MarkPush.gen.py.)
-/
namespace Go.Proofs.YtgbclfhgpkmcnaaGreatDoor
open Go.RowKit
set_option linter.unusedVariables false
set_option linter.unusedSimpArgs false

/-- A block is put behind those that are kept: an append as an operation by itself. -/
theorem wp_append_kp (w : World) {o : Oper} {a : Act} {K : Act → World → Prop} {Q : Exit → Act → World → Prop} (s x : Operand)
    (ho : o.op = .call { callee := .builtin .append, args := #[s, x], argTypes := #[40, 40] }) (kv : Value) (T : List Blk) (bk : Blk) (hs : a.eval s = kv) (h : Kp w kv T) (sb : Nat) (hx : a.eval x = .slice (some ⟨sb, 0, none⟩) 1 1) (hX : ∀ j u, bk.cells[j]? = some u → w.cell? ⟨sb, j, none⟩ = some u) (hbd : T.length ≤ 2000000)
    (hK : ∀ g cap w', Kp w' (.slice (some ⟨g, 0, none⟩) (T.length + 1) cap) (T ++ [bk]) → (g ∈ kv.ownBlock.toList ∨ w.heap.size ≤ g) → Turned kv.ownBlock.toList w w' → K (a.put o.dst (.slice (some ⟨g, 0, none⟩) (T.length + 1) cap)) w') : o.wp Tryz.prog a w K Q := by
  have und : Tryz.prog.underlying 40 = some (.slice 54) := by kernel_rfl
  obtain ⟨i2, hi2, hi0⟩ := Option.map_eq_some_iff.1 Tryz.infoBlock
  simp only [Prod.mk.injEq] at hi0
  obtain ⟨hy0, hy1, hy2⟩ := hi0
  obtain ⟨v', w', hr, h2, h3, h4, h5⟩ := run_append_own_at (P := Tryz.prog) w 0 40 o.type 54 i2 _ 4 32 und hi2 hy0 hy1 hy2 rfl (by decide) kv T.length (flat T) h ⟨sb, 0, none⟩ 1 1 bk.cells rfl (fun j u hu => by rw [Addr.add_lit, Nat.zero_add]; exact hX j u hu) bk.cells_one (by unfold maxLen; omega) (by omega) (Nat.zero_le _)
  rw [← flat_snoc] at h2
  have h2' := h2
  rcases h2'.2 with ⟨_, h0⟩ | ⟨g, cap, cur, rfl, _⟩
  · omega
  · unfold Oper.wp execOp
    simp only [ho, resolve, invoke, builtin, Sem.run_bind, Sem.run_pure, Result.andThen_ok, List.map_toArray, List.map_cons, List.map_nil, hs, hx, hr]
    refine hK g cap w' (by unfold Kp; rw [List.length_append]; exact h2) ?_ ((Turned.refl _ _).grown h3 (fun k hk => .inl (by simp [hk])))
    rcases h5 with e | e
    · left; rw [← e]; simp [Value.ownBlock]
    · right; simp [Value.ownBlock] at e; omega
theorem Wm.kept0 {w : World} {b M a : Nat} {ds : List Nat} {x : MW} {B : List Nat} {gd cd : Nat} {hv kv pv : Value} {gh gp O : List Nat} {nx : MStp} {bl : Blk} {asked : Int} {po : Option Addr} {item : Int} {pf : Option Addr}
    (h : Wm w b M a ds x B gd cd hv kv pv gh gp O nx bl asked po item pf) {T : List Blk} (hT : x.kept = T) {o : Obj} : Kp (w.drew.alloc o) kv T := by
  subst hT
  exact h.kept.turned ((Turned.refl [] w).drew.alloc o) (by simp)
theorem four_cells (w : World) (bk : Blk) (j : Nat) (u : Value) (h : bk.cells[j]? = some u) : (w.drew.alloc (.cells #[.int .i64 bk.t, .int .i64 bk.k, .int .i64 bk.n, .int .i64 bk.s] 54)).cell? ⟨w.heap.size, j, none⟩ = some u := by
  have e := heap_alloc_new w.drew (.cells #[.int .i64 bk.t, .int .i64 bk.k, .int .i64 bk.n, .int .i64 bk.s] 54)
  have e2 := cell_of_heap (b := w.heap.size) e j
  rw [e2]
  unfold Blk.cells at h
  simpa using h

section
variable (P : MP) (I : Ids) (k : Nat) (ds : List Nat) (w : World) (S : MS) (b : Nat) (B : List Nat) (x : MW)
set_option maxRecDepth 100000 in
set_option maxHeartbeats 8000000 in
theorem wpush_any (bk : Blk) (o : OpS) (h : Cx P I k ds w S b B) (hx : WmX w b I.M I.a ds x B) (ha : x.act = .push bk o) (hd : o.done = false) (hfit : Fit (P.dq k 0) S.l o 1000000) (hcs : 0 ≤ S.cs ∧ S.cs ≤ 1000000) (hkl : x.kept.length ≤ 1000000) :
    Calls Tryz.prog 91 #[.pointer (some ⟨b, 0, none⟩)] w fun e w' => e = .returned (.tuple #[]) ∧ Out P I k ds w b B { S with l := (stepOf (P.dq k 0) S.l o).1, cs := S.cs + 1 } (pushedW x bk (stepOf (P.dq k 0) S.l o).2) w' := by
  obtain ⟨gd, cd, hv, kv, pv, gh, gp, O, nx, bl, asked, po, item, pf, hW⟩ := hx
  have hact := hW.act
  rw [ha] at hact
  obtain ⟨rfl, rfl, ob, d, rfl, hdk, hop, rfl⟩ := hact
  have hobB : ob ∈ B := by rw [hW.own]; simp
  have f11 : w.cell? ⟨b, 11, none⟩ = some (.pointer (some ⟨ob, 0, none⟩)) := hW.raw.f 11
  have hn : 0 < P.n := by have := h.ne; omega
  have hD := h.sh.dq 0 d hdk
  rw [P.cOf hn] at hD
  have hst := step_any w d I.p I.q ob (P.dq k 0) S.l S.cs 1000000 (by omega) o hfit ⟨ne_of_type hop hD.head (by decide), ne_of_type hop hD.mem.head (by decide), ne_of_type hop hD.mem.row (by decide)⟩ hD hop
  rw [hd] at hst
  simp only [Bool.false_eq_true, if_false] at hst
  rw [w64 _ (by omega)] at hst
  have HA := hide hst
  have HK : Hid (∀ w1, Dq w1 d I.p I.q (P.dq k 0) (stepOf (P.dq k 0) S.l o).1 (S.cs + 1) → OpB w1 ob d (stepOf (P.dq k 0) S.l o).2 → Turned [I.p, I.q, ob] w w1 → Cx P I k ds w1 { S with l := (stepOf (P.dq k 0) S.l o).1, cs := S.cs + 1 } b B ∧ Wm w1 b I.M I.a ds { x with act := .push bl (stepOf (P.dq k 0) S.l o).2 } B gd cd hv kv pv gh gp [ob] .push bl asked (some ⟨ob, 0, none⟩) item pf ∧ Turned (I.all b B) w w1 ∧ OpB w1 ob d (stepOf (P.dq k 0) S.l o).2) := by
    intro w1 r1 r2 t
    have hsh := h.sh.stepD hdk hop r1 (stepOf_len _ _ _) t
    obtain ⟨p1, p2, p3, p4, p5, p6⟩ := h.stepW hW hop (.inl rfl) t
    exact ⟨h.stepped hobB hop (.inl rfl) t hsh, ⟨hW.own, p3, p1, p2, p4, p5, p6, rfl, rfl, ob, d, rfl, hdk, r2, rfl⟩, t.mono (Ids.inAll (by simp [hobB])), r2⟩
  generalize hR : stepOf (P.dq k 0) S.l o = R at *
  clear hst
  unfold pushedW
  cases hdone : R.2.done
  · rw [hdone] at HA
    clear hD hop hfit h hW hobB hdk ha hd hR
    go_enter Tryz.func91, Tryz.ntmps91
    go_wp2_with fail
    refine HA.out.mono ?_
    rintro e w1 ⟨rfl, r1, r2, t⟩
    have H1 := hide (HK.out w1 r1 r2 t)
    clear r1 r2 t HA HK f11
    go_wp2_with fail
    first | refine bodyPost_end (results_none rfl _ _ _) rfl ?_ | refine bodyPost_ret (results_none rfl _ _ _) rfl ?_
    obtain ⟨C, W, T, _⟩ := H1.out
    exact ⟨rfl, B, C, ⟨_, _, _, _, _, _, _, _, _, _, _, _, _, _, W⟩, fun y hy => .inl hy, T⟩
  · rw [hdone] at HA
    simp only [if_true]
    -- behind 'w.next = w.choose' and what the push tells
    have HV : Hid (∀ w1, Cx P I k ds w1 { S with l := R.1, cs := S.cs + 1 } b B → Wm w1 b I.M I.a ds { x with act := .push bl R.2 } B gd cd hv kv pv gh gp [ob] .push bl asked (some ⟨ob, 0, none⟩) item pf → Turned (I.all b B) w w1 → OpB w1 ob d R.2 → (w1.setCell ⟨b, 0, none⟩ (stpV .choose b)).cell? ⟨b, 11, none⟩ = some (.pointer (some ⟨ob, 0, none⟩)) ∧ Calls Tryz.prog 87 #[.pointer (some ⟨ob, 0, none⟩)] (w1.setCell ⟨b, 0, none⟩ (stpV .choose b)) fun e w' => e = .returned (.tuple #[.int .i64 (valOf R.2).1, .int .i64 (valOf R.2).2]) ∧ Cx P I k ds w' { S with l := R.1, cs := S.cs + 1 } b (gh ++ (kv.ownBlock.toList ++ (gp ++ []))) ∧ Wm w' b I.M I.a ds { x with act := .choose } (gh ++ (kv.ownBlock.toList ++ (gp ++ []))) gd cd hv kv pv gh gp [] .choose bl asked (some ⟨ob, 0, none⟩) item pf ∧ Turned (I.all b B) w w') := by
      intro w1 C W T ho
      obtain ⟨C0, W0, T0, hB0⟩ := chosen C W
      refine ⟨W0.raw.f 11, ?_⟩
      have ho2 : OpB (w1.setCell ⟨b, 0, none⟩ (stpV .choose b)) ob d R.2 := ho.turned (S := [b]) ((Turned.refl _ _).setCell (by simp) _) (by simp; exact ne_of_type ho W.raw (by decide))
      refine (value_any _ d ob R.2 ho2).mono ?_
      rintro e w' ⟨rfl, m, rfl⟩
      have t : Turned [] (w1.setCell ⟨b, 0, none⟩ (stpV .choose b)) ((w1.setCell ⟨b, 0, none⟩ (stpV .choose b)).drewN m) := (Turned.refl _ _).drewN m
      exact ⟨rfl, C0.keep0 t, W0.keep0 t, (T.trans T0).trans (t.mono (by simp))⟩
    have hB0 : ∀ y, y ∈ gh ++ (kv.ownBlock.toList ++ (gp ++ [])) → y ∈ B := fun y hy => by
      rw [hW.own]
      simp only [List.append_nil, List.mem_append] at hy ⊢
      rcases hy with h | h | h
      · exact .inl h
      · exact .inr (.inl h)
      · exact .inr (.inr (.inl h))
    have HB0 := hide hB0
    generalize hV : valOf R.2 = V at *
    obtain ⟨vi, ve⟩ := V
    simp only at HV ⊢
    by_cases e0 : ve = 0
    · subst e0
      rw [if_pos rfl]
      clear hD hop hfit h hW hobB hdk ha hd hR hB0 hV
      go_enter Tryz.func91, Tryz.ntmps91
      go_wp2_with fail
      refine HA.out.mono ?_
      rintro e w1 ⟨rfl, r1, r2, t⟩
      have H1 := hide (HK.out w1 r1 r2 t)
      have HV1 := hide (HV.out w1 H1.out.1 H1.out.2.1 H1.out.2.2.1 H1.out.2.2.2)
      have y0 : w1.cell? ⟨b, 0, none⟩ = some (stpV .push b) := H1.out.2.1.raw.f 0
      have z0 := H1.out.2.1.raw.fz 0
      have g11 := HV1.out.1
      simp only [stpV, MStp.fn] at g11
      clear r1 r2 t HA HK f11 HV H1
      go_wp2_with fail
      refine HV1.out.2.mono ?_
      rintro e w2 ⟨rfl, C2, W2, T2⟩
      have H2 := hide (And.intro C2 (And.intro W2 T2))
      clear C2 W2 T2 HV1 g11 y0 z0
      go_wp2_with fail
      first | refine bodyPost_end (results_none rfl _ _ _) rfl ?_ | refine bodyPost_ret (results_none rfl _ _ _) rfl ?_
      obtain ⟨C, W, T⟩ := H2.out
      exact ⟨rfl, _, C, ⟨_, _, _, _, _, _, _, _, _, _, _, _, _, _, W⟩, fun y hy => .inl (HB0.out y hy), T⟩
    · rw [if_neg e0]
      obtain ⟨T, hT⟩ : ∃ T, x.kept = T := ⟨_, rfl⟩
      rw [hT] at hkl ⊢
      have HG : Hid (b ∉ kv.ownBlock.toList) := fun hm => by
        simp only [Option.mem_toList] at hm
        obtain ⟨c, fr, g1⟩ := hW.kept.types b hm
        exact ne_of_type g1 hW.raw (by decide) rfl
      have HT : Hid (∀ (U : List Nat) (w' w'' : World), Turned U w' w'' → (w'.cell? ⟨b, 5, none⟩ = some (.int .i64 bl.t) ∧ w'.cell? ⟨b, 6, none⟩ = some (.int .i64 bl.k) ∧ w'.cell? ⟨b, 7, none⟩ = some (.int .i64 bl.n) ∧ w'.cell? ⟨b, 8, none⟩ = some (.int .i64 bl.s)) → b ∉ U → (w''.cell? ⟨b, 5, none⟩ = some (.int .i64 bl.t) ∧ w''.cell? ⟨b, 6, none⟩ = some (.int .i64 bl.k) ∧ w''.cell? ⟨b, 7, none⟩ = some (.int .i64 bl.n) ∧ w''.cell? ⟨b, 8, none⟩ = some (.int .i64 bl.s))) := by
        rintro U w' w'' t ⟨h1, h2, h3, h4⟩ g1
        exact ⟨by rw [t.cell (p := ⟨b, 5, none⟩) (block_lt h1) g1]; exact h1, by rw [t.cell (p := ⟨b, 6, none⟩) (block_lt h2) g1]; exact h2, by rw [t.cell (p := ⟨b, 7, none⟩) (block_lt h3) g1]; exact h3, by rw [t.cell (p := ⟨b, 8, none⟩) (block_lt h4) g1]; exact h4⟩
      have HSt : Hid (∀ (w' : World) (v : Value), WmR w' b (mwCells .choose b I.M gd ds.length cd hv kv bl pv asked (some ⟨ob, 0, none⟩) item pf x.seen x.ended) → (w'.cell? ⟨b, 5, none⟩ = some (.int .i64 bl.t) ∧ w'.cell? ⟨b, 6, none⟩ = some (.int .i64 bl.k) ∧ w'.cell? ⟨b, 7, none⟩ = some (.int .i64 bl.n) ∧ w'.cell? ⟨b, 8, none⟩ = some (.int .i64 bl.s)) → ((w'.setCell ⟨b, 4, none⟩ v).cell? ⟨b, 5, none⟩ = some (.int .i64 bl.t) ∧ (w'.setCell ⟨b, 4, none⟩ v).cell? ⟨b, 6, none⟩ = some (.int .i64 bl.k) ∧ (w'.setCell ⟨b, 4, none⟩ v).cell? ⟨b, 7, none⟩ = some (.int .i64 bl.n) ∧ (w'.setCell ⟨b, 4, none⟩ v).cell? ⟨b, 8, none⟩ = some (.int .i64 bl.s))) := by
        rintro w' v hr ⟨h1, h2, h3, h4⟩
        exact ⟨keep_own hr (by decide) v h1, keep_own hr (by decide) v h2, keep_own hr (by decide) v h3, keep_own hr (by decide) v h4⟩
      have HF : Hid (∀ (wq w3 : World) (g3 cap3 : Nat), Cx P I k ds wq { S with l := R.1, cs := S.cs + 1 } b (gh ++ (kv.ownBlock.toList ++ (gp ++ []))) → Wm wq b I.M I.a ds { x with act := .choose } (gh ++ (kv.ownBlock.toList ++ (gp ++ []))) gd cd hv kv pv gh gp [] .choose bl asked (some ⟨ob, 0, none⟩) item pf → Turned (I.all b B) w wq → Kp w3 (.slice (some ⟨g3, 0, none⟩) (T.length + 1) cap3) (T ++ [bl]) → (g3 ∈ kv.ownBlock.toList ∨ (wq.drew.alloc (.cells #[.int .i64 bl.t, .int .i64 bl.k, .int .i64 bl.n, .int .i64 bl.s] 54)).heap.size ≤ g3) → Turned kv.ownBlock.toList (wq.drew.alloc (.cells #[.int .i64 bl.t, .int .i64 bl.k, .int .i64 bl.n, .int .i64 bl.s] 54)) w3 →
          Out P I k ds w b B { S with l := R.1, cs := S.cs + 1 } { x with act := .choose, kept := T ++ [bl] } (w3.setCell ⟨b, 4, none⟩ (.slice (some ⟨g3, 0, none⟩) (T.length + 1) cap3))) := by
        intro wq w3 g3 cap3 C W Tq q1 q2 q3
        have tA : Turned [] wq (wq.drew.alloc (.cells #[.int .i64 bl.t, .int .i64 bl.k, .int .i64 bl.n, .int .i64 bl.s] 54)) := (Turned.refl _ _).drew.alloc _
        have C2 := C.keep0 tA
        have W2 := W.keep0 tA
        have oK : ∀ e, 54 ≠ e → Off (wq.drew.alloc (.cells #[.int .i64 bl.t, .int .i64 bl.k, .int .i64 bl.n, .int .i64 bl.s] 54)) kv.ownBlock.toList e := fun e he z hz c fr g => by
          simp only [Option.mem_toList] at hz
          obtain ⟨c2, fr2, g2⟩ := W2.kept.types z hz
          rw [g2] at g
          cases g
          exact he rfl
        have hkB : ∀ z, z ∈ kv.ownBlock.toList → z ∈ gh ++ (kv.ownBlock.toList ++ (gp ++ [])) := fun z hz => by simp only [List.mem_append]; exact .inr (.inl hz)
        have C3 := C2.keep q3 (oK _ (by decide)) (oK _ (by decide)) (oK _ (by decide)) (oK _ (by decide)) (oK _ (by decide)) (oK _ (by decide)) (oK _ (by decide)) (fun h0 => C2.zB (hkB 0 h0) rfl) ⟨fun hm => C2.ap.2.2.1 (hkB _ hm), fun hm => C2.ap.2.2.2 (hkB _ hm)⟩
        have raw3 := W2.raw.turned q3 ((oK _ (by decide)).not W2.raw)
        obtain ⟨c8, fr8, hr8⟩ := W2.row
        have hgd := (oK _ (by decide)).not hr8
        have t4 : Turned [b] w3 (w3.setCell ⟨b, 4, none⟩ (.slice (some ⟨g3, 0, none⟩) (T.length + 1) cap3)) := (Turned.refl _ _).setCell (by simp) _
        have lwq : wq.heap.size ≤ (wq.drew.alloc (.cells #[.int .i64 bl.t, .int .i64 bl.k, .int .i64 bl.n, .int .i64 bl.s] 54)).heap.size := tA.size
        have hB : ∀ z, z ∈ gh ++ ([g3] ++ (gp ++ [])) → z ∈ gh ++ (kv.ownBlock.toList ++ (gp ++ [])) ∨ wq.heap.size ≤ z := fun z hz => by
          simp only [List.append_nil, List.mem_append, List.mem_singleton] at hz ⊢
          rcases hz with g | rfl | g
          · exact .inl (.inl g)
          · rcases q2 with g | g
            · exact .inl (.inr (.inl g))
            · right; omega
          · exact .inl (.inr (.inr g))
        have C4 := (C3.keepb raw3 t4).own' (B' := gh ++ ([g3] ++ (gp ++ []))) (fun z hz => by
          rcases hB z hz with g | g
          · exact .inl g
          · have l1 := C.hm.ltq
            have l2 := C.sh.mem.ltq
            exact .inr ⟨by omega, by omega, by omega⟩)
        have hgd4 : gd ∉ [b] := by simp; exact ne_of_type hr8 W2.raw (by decide)
        have hr9 := q3.at hr8 hgd
        refine Out.trans (w1 := wq) (B1 := gh ++ (kv.ownBlock.toList ++ (gp ++ []))) ⟨_, C4, ⟨gd, cd, hv, .slice (some ⟨g3, 0, none⟩) (T.length + 1) cap3, pv, gh, gp, [], .choose, bl, asked, some ⟨ob, 0, none⟩, item, pf, rfl, raw3.set 4 _, ⟨c8, fr8, t4.at hr9 hgd4⟩, fun j d hj => by rw [t4.cell (p := ⟨gd, j, none⟩) (lt_of_heap hr9) hgd4, q3.cell (p := ⟨gd, j, none⟩) (lt_of_heap hr8) hgd]; exact W2.rows j d hj, (W2.hands.turned q3 (fun z hz => ?_)).turned t4 (fun z hz => ?_), q1.turned t4 (fun z hz => ?_), (W2.places.turned q3 (fun z hz => ?_)).turned t4 (fun z hz => ?_), rfl, rfl⟩, hB, ((tA.mono (by simp)).trans (q3.mono (Ids.inAll (fun z hz => by simp only [hkB z hz, or_true])))).trans (t4.mono (Ids.inAll (by simp)))⟩ Tq (fun y hy => .inl (hB0 y hy))
        · obtain ⟨c2, fr2, g2⟩ := W2.hands.types z hz
          exact (oK _ (by decide)).not g2
        · obtain ⟨c2, fr2, g2⟩ := W2.hands.types z hz
          simp; exact ne_of_type g2 W2.raw (by decide)
        · obtain ⟨c2, fr2, g2⟩ := q1.types z hz
          simp; exact ne_of_type g2 raw3 (by decide)
        · obtain ⟨c2, fr2, g2⟩ := W2.places.types z hz
          exact (oK _ (by decide)).not g2
        · obtain ⟨c2, fr2, g2⟩ := W2.places.types z hz
          simp; exact ne_of_type g2 W2.raw (by decide)
      have HKT := hide hT
      have HKl := hide (show T.length ≤ 2000000 by omega)
      clear hD hop hfit h hW hobB hdk ha hd hR hB0 hV hT
      go_enter Tryz.func91, Tryz.ntmps91
      go_wp2_with fail
      refine HA.out.mono ?_
      rintro e w1 ⟨rfl, r1, r2, t⟩
      have H1 := hide (HK.out w1 r1 r2 t)
      have HV1 := hide (HV.out w1 H1.out.1 H1.out.2.1 H1.out.2.2.1 H1.out.2.2.2)
      have y0 : w1.cell? ⟨b, 0, none⟩ = some (stpV .push b) := H1.out.2.1.raw.f 0
      have z0 := H1.out.2.1.raw.fz 0
      have g11 := HV1.out.1
      simp only [stpV, MStp.fn] at g11
      clear r1 r2 t HA HK f11 HV H1
      go_wp2_with fail
      refine HV1.out.2.mono ?_
      rintro e wq ⟨rfl, C2, W2, T2⟩
      have Hq := hide (And.intro C2 (And.intro W2 T2))
      have y4 : wq.cell? ⟨b, 4, none⟩ = some kv := W2.raw.f 4
      have y5 : wq.cell? ⟨b, 5, none⟩ = some (.int .i64 bl.t) := W2.raw.f 5
      have y6 : wq.cell? ⟨b, 6, none⟩ = some (.int .i64 bl.k) := W2.raw.f 6
      have y7 : wq.cell? ⟨b, 7, none⟩ = some (.int .i64 bl.n) := W2.raw.f 7
      have y8 : wq.cell? ⟨b, 8, none⟩ = some (.int .i64 bl.s) := W2.raw.f 8
      have z4 := W2.raw.fz 4
      have lbq := W2.raw.lt
      clear C2 W2 T2 HV1 g11 y0 z0
      go_wp2_with fail
      refine wp_region_held_drew (S := (fun w' => w'.cell? ⟨b, 5, none⟩ = some (.int .i64 bl.t) ∧ w'.cell? ⟨b, 6, none⟩ = some (.int .i64 bl.k) ∧ w'.cell? ⟨b, 7, none⟩ = some (.int .i64 bl.n) ∧ w'.cell? ⟨b, 8, none⟩ = some (.int .i64 bl.s))) (by kernel_rfl) (by go_keep) (fun hHeld => ?_)
      refine wpAnyH_take (i := 0) (v := ?_) rfl (by kernel_rfl) (by kernel_rfl) (by kernel_rfl) (fun _ _ _ h => h) (Or.inl ⟨by rfl, ?_⟩) (by assumption) ?_
      rotate_left
      · (intro w hSw; (try dsimp only at hSw); go_simp; all_goals with_reducible rfl)
      (try simp only [List.getElem_toArray, List.getElem_cons_succ, List.getElem_cons_zero, Act.put, List.setIfInBounds_toArray, List.set_cons_zero, List.set_cons_succ])
      refine wpAnyH_take (i := 1) (v := ?_) rfl (by kernel_rfl) (by kernel_rfl) (by kernel_rfl) (fun _ _ _ h => h) (Or.inl ⟨by rfl, ?_⟩) (by assumption) ?_
      rotate_left
      · (intro w hSw; (try dsimp only at hSw); go_simp; all_goals with_reducible rfl)
      (try simp only [List.getElem_toArray, List.getElem_cons_succ, List.getElem_cons_zero, Act.put, List.setIfInBounds_toArray, List.set_cons_zero, List.set_cons_succ])
      refine wpAnyH_take (i := 2) (v := ?_) rfl (by kernel_rfl) (by kernel_rfl) (by kernel_rfl) (fun _ _ _ h => h) (Or.inl ⟨by rfl, ?_⟩) (by assumption) ?_
      rotate_left
      · (intro w hSw; (try dsimp only at hSw); go_simp; all_goals with_reducible rfl)
      (try simp only [List.getElem_toArray, List.getElem_cons_succ, List.getElem_cons_zero, Act.put, List.setIfInBounds_toArray, List.set_cons_zero, List.set_cons_succ])
      refine wpAnyH_take (i := 3) (v := ?_) rfl (by kernel_rfl) (by kernel_rfl) (by kernel_rfl) (fun _ _ _ h => h) (Or.inl ⟨by rfl, ?_⟩) (by assumption) ?_
      rotate_left
      · (intro w hSw; (try dsimp only at hSw); go_simp; all_goals with_reducible rfl)
      (try simp only [List.getElem_toArray, List.getElem_cons_succ, List.getElem_cons_zero, Act.put, List.setIfInBounds_toArray, List.set_cons_zero, List.set_cons_succ])
      refine wpAnyH_take (i := 5) (v := ?_) rfl (by kernel_rfl) (by kernel_rfl) (by kernel_rfl) (fun _ _ _ h => h) (Or.inl ⟨by rfl, ?_⟩) (by assumption) ?_
      rotate_left
      · (intro w hSw; (try dsimp only at hSw); go_simp; all_goals with_reducible rfl)
      (try simp only [List.getElem_toArray, List.getElem_cons_succ, List.getElem_cons_zero, Act.put, List.setIfInBounds_toArray, List.set_cons_zero, List.set_cons_succ])
      refine wpAnyH_take (i := 6) (v := ?_) rfl (by kernel_rfl) (by kernel_rfl) (by kernel_rfl) (fun _ _ _ h => h) (Or.inl ⟨by rfl, ?_⟩) (by assumption) ?_
      rotate_left
      · (intro w hSw; (try dsimp only at hSw); go_simp; all_goals with_reducible rfl)
      (try simp only [List.getElem_toArray, List.getElem_cons_succ, List.getElem_cons_zero, Act.put, List.setIfInBounds_toArray, List.set_cons_zero, List.set_cons_succ])
      refine wpAnyH_take (i := 7) (v := ?_) rfl (by kernel_rfl) (by kernel_rfl) (by kernel_rfl) (fun _ _ _ h => h) (Or.inl ⟨by rfl, ?_⟩) (by assumption) ?_
      rotate_left
      · (intro w hSw; (try dsimp only at hSw); go_simp; all_goals with_reducible rfl)
      (try simp only [List.getElem_toArray, List.getElem_cons_succ, List.getElem_cons_zero, Act.put, List.setIfInBounds_toArray, List.set_cons_zero, List.set_cons_succ])
      refine wpAnyH_take (i := 8) (v := ?_) rfl (by kernel_rfl) (by kernel_rfl) (by kernel_rfl) (fun _ _ _ h => h) (Or.inl ⟨by rfl, ?_⟩) (by assumption) ?_
      rotate_left
      · (intro w hSw; (try dsimp only at hSw); go_simp; all_goals with_reducible rfl)
      (try simp only [List.getElem_toArray, List.getElem_cons_succ, List.getElem_cons_zero, Act.put, List.setIfInBounds_toArray, List.set_cons_zero, List.set_cons_succ])
      refine wpAnyH_ready (rs := [4, 9]) (by kernel_rfl) (by simp) ?_
      refine AllReadyH.cons rfl (fun K hK => ?_) ?_
      · (try simp only [List.getElem_toArray, List.getElem_cons_succ, List.getElem_cons_zero])
        go_simp
        refine hK.out _ _ ?_ (fun hHeld => ?_)
        · ((try dsimp only); assumption)
        clear hK K
        (try simp only [List.getElem_toArray, List.getElem_cons_succ, List.getElem_cons_zero, Act.put, List.setIfInBounds_toArray, List.set_cons_zero, List.set_cons_succ])
        refine wpAnyH_ready (rs := [9]) (by kernel_rfl) (by simp) ?_
        refine AllReadyH.cons rfl (fun K hK => ?_) AllReadyH.nil
        (try simp only [List.getElem_toArray, List.getElem_cons_succ, List.getElem_cons_zero])
        go_simp
        refine hK.out _ _ ?_ (fun hHeld => ?_)
        · ((try dsimp only); exact HT.out [] _ _ ((Turned.refl _ _).alloc _) hHeld (by simp))
        clear hK K
        (try simp only [List.getElem_toArray, List.getElem_cons_succ, List.getElem_cons_zero, Act.put, List.setIfInBounds_toArray, List.set_cons_zero, List.set_cons_succ])
        refine wpAnyH_ready (rs := [10]) (by kernel_rfl) (by simp) ?_
        refine AllReadyH.cons rfl (fun K hK => ?_) AllReadyH.nil
        (try simp only [List.getElem_toArray, List.getElem_cons_succ, List.getElem_cons_zero])
        refine of_wanted (by rfl) ?_
        refine wp_append_kp (wq.drew.alloc (.cells #[.int .i64 bl.t, .int .i64 bl.k, .int .i64 bl.n, .int .i64 bl.s] 54)) (.tmp 29) (.tmp 34) ?_ kv T bl ?_ (Hq.out.2.1.kept0 HKT.out) wq.heap.size ?_ (fun j u hu => four_cells wq bl j u hu) HKl.out ?_
        · rfl
        · rfl
        · rfl
        intro g3 cap3 w3 q1 q2 q3
        have hS3 := HT.out kv.ownBlock.toList _ w3 q3 hHeld HG.out
        have raw3 := (Hq.out.2.1.raw.turned ((Turned.refl [] wq).drew.alloc (.cells #[.int .i64 bl.t, .int .i64 bl.k, .int .i64 bl.n, .int .i64 bl.s] 54)) (by simp)).turned q3 HG.out
        have u4 : w3.cell? ⟨b, 4, none⟩ = some kv := raw3.f 4
        have uz := raw3.fz 4
        have H3 := hide (And.intro q1 (And.intro q2 (And.intro q3 raw3)))
        clear q1 q2 q3 raw3
        refine hK.out _ _ ?_ (fun hHeld => ?_)
        · ((try dsimp only); exact hS3)
        clear hK K hS3
        (try simp only [List.getElem_toArray, List.getElem_cons_succ, List.getElem_cons_zero, Act.put, List.setIfInBounds_toArray, List.set_cons_zero, List.set_cons_succ])
        refine wpAnyH_take (i := 11) (v := ?_) rfl (by kernel_rfl) (by kernel_rfl) (by kernel_rfl) (fun _ _ _ h => h) (Or.inl ⟨by rfl, ?_⟩) (by assumption) ?_
        rotate_left
        · (intro w hSw; (try dsimp only at hSw); go_simp; all_goals with_reducible rfl)
        (try simp only [List.getElem_toArray, List.getElem_cons_succ, List.getElem_cons_zero, Act.put, List.setIfInBounds_toArray, List.set_cons_zero, List.set_cons_succ])
        refine wpAnyH_take (i := 12) (v := ?_) rfl (by kernel_rfl) (by kernel_rfl) (by kernel_rfl) (fun _ _ _ h => h) (Or.inl ⟨by rfl, ?_⟩) (by assumption) ?_
        rotate_left
        · (intro w hSw; (try dsimp only at hSw); go_simp; all_goals with_reducible rfl)
        (try simp only [List.getElem_toArray, List.getElem_cons_succ, List.getElem_cons_zero, Act.put, List.setIfInBounds_toArray, List.set_cons_zero, List.set_cons_succ])
        refine wpAnyH_ready (rs := [13]) (by kernel_rfl) (by simp) ?_
        refine AllReadyH.cons rfl (fun K hK => ?_) AllReadyH.nil
        (try simp only [List.getElem_toArray, List.getElem_cons_succ, List.getElem_cons_zero])
        go_simp
        refine hK.out _ _ ?_ (fun hHeld => ?_)
        · ((try dsimp only); exact HSt.out w3 _ H3.out.2.2.2 hHeld)
        clear hK K
        (try simp only [List.getElem_toArray, List.getElem_cons_succ, List.getElem_cons_zero, Act.put, List.setIfInBounds_toArray, List.set_cons_zero, List.set_cons_succ])
        refine wpAnyH_done (by kernel_rfl) ?_ _
        have HR := hide (HF.out wq w3 g3 cap3 Hq.out.1 Hq.out.2.1 Hq.out.2.2 H3.out.1 H3.out.2.1 H3.out.2.2.1)
        clear HT HSt Hq H3 u4 uz hHeld y4 y5 y6 y7 y8 z4 HF
        go_wp2_with fail
        first | refine bodyPost_end (results_none rfl _ _ _) rfl ?_ | refine bodyPost_ret (results_none rfl _ _ _) rfl ?_
        exact ⟨rfl, HR.out⟩
      · refine AllReadyH.cons rfl (fun K hK => ?_) AllReadyH.nil
        (try simp only [List.getElem_toArray, List.getElem_cons_succ, List.getElem_cons_zero])
        go_simp
        refine hK.out _ _ ?_ (fun hHeld => ?_)
        · ((try dsimp only); exact HT.out [] _ _ ((Turned.refl _ _).alloc _) hHeld (by simp))
        clear hK K
        (try simp only [List.getElem_toArray, List.getElem_cons_succ, List.getElem_cons_zero, Act.put, List.setIfInBounds_toArray, List.set_cons_zero, List.set_cons_succ])
        refine wpAnyH_ready (rs := [4]) (by kernel_rfl) (by simp) ?_
        refine AllReadyH.cons rfl (fun K hK => ?_) AllReadyH.nil
        (try simp only [List.getElem_toArray, List.getElem_cons_succ, List.getElem_cons_zero])
        go_simp
        refine hK.out _ _ ?_ (fun hHeld => ?_)
        · ((try dsimp only); assumption)
        clear hK K
        (try simp only [List.getElem_toArray, List.getElem_cons_succ, List.getElem_cons_zero, Act.put, List.setIfInBounds_toArray, List.set_cons_zero, List.set_cons_succ])
        refine wpAnyH_ready (rs := [10]) (by kernel_rfl) (by simp) ?_
        refine AllReadyH.cons rfl (fun K hK => ?_) AllReadyH.nil
        (try simp only [List.getElem_toArray, List.getElem_cons_succ, List.getElem_cons_zero])
        refine of_wanted (by rfl) ?_
        refine wp_append_kp (wq.drew.alloc (.cells #[.int .i64 bl.t, .int .i64 bl.k, .int .i64 bl.n, .int .i64 bl.s] 54)) (.tmp 29) (.tmp 34) ?_ kv T bl ?_ (Hq.out.2.1.kept0 HKT.out) wq.heap.size ?_ (fun j u hu => four_cells wq bl j u hu) HKl.out ?_
        · rfl
        · rfl
        · rfl
        intro g3 cap3 w3 q1 q2 q3
        have hS3 := HT.out kv.ownBlock.toList _ w3 q3 hHeld HG.out
        have raw3 := (Hq.out.2.1.raw.turned ((Turned.refl [] wq).drew.alloc (.cells #[.int .i64 bl.t, .int .i64 bl.k, .int .i64 bl.n, .int .i64 bl.s] 54)) (by simp)).turned q3 HG.out
        have u4 : w3.cell? ⟨b, 4, none⟩ = some kv := raw3.f 4
        have uz := raw3.fz 4
        have H3 := hide (And.intro q1 (And.intro q2 (And.intro q3 raw3)))
        clear q1 q2 q3 raw3
        refine hK.out _ _ ?_ (fun hHeld => ?_)
        · ((try dsimp only); exact hS3)
        clear hK K hS3
        (try simp only [List.getElem_toArray, List.getElem_cons_succ, List.getElem_cons_zero, Act.put, List.setIfInBounds_toArray, List.set_cons_zero, List.set_cons_succ])
        refine wpAnyH_take (i := 11) (v := ?_) rfl (by kernel_rfl) (by kernel_rfl) (by kernel_rfl) (fun _ _ _ h => h) (Or.inl ⟨by rfl, ?_⟩) (by assumption) ?_
        rotate_left
        · (intro w hSw; (try dsimp only at hSw); go_simp; all_goals with_reducible rfl)
        (try simp only [List.getElem_toArray, List.getElem_cons_succ, List.getElem_cons_zero, Act.put, List.setIfInBounds_toArray, List.set_cons_zero, List.set_cons_succ])
        refine wpAnyH_take (i := 12) (v := ?_) rfl (by kernel_rfl) (by kernel_rfl) (by kernel_rfl) (fun _ _ _ h => h) (Or.inl ⟨by rfl, ?_⟩) (by assumption) ?_
        rotate_left
        · (intro w hSw; (try dsimp only at hSw); go_simp; all_goals with_reducible rfl)
        (try simp only [List.getElem_toArray, List.getElem_cons_succ, List.getElem_cons_zero, Act.put, List.setIfInBounds_toArray, List.set_cons_zero, List.set_cons_succ])
        refine wpAnyH_ready (rs := [13]) (by kernel_rfl) (by simp) ?_
        refine AllReadyH.cons rfl (fun K hK => ?_) AllReadyH.nil
        (try simp only [List.getElem_toArray, List.getElem_cons_succ, List.getElem_cons_zero])
        go_simp
        refine hK.out _ _ ?_ (fun hHeld => ?_)
        · ((try dsimp only); exact HSt.out w3 _ H3.out.2.2.2 hHeld)
        clear hK K
        (try simp only [List.getElem_toArray, List.getElem_cons_succ, List.getElem_cons_zero, Act.put, List.setIfInBounds_toArray, List.set_cons_zero, List.set_cons_succ])
        refine wpAnyH_done (by kernel_rfl) ?_ _
        have HR := hide (HF.out wq w3 g3 cap3 Hq.out.1 Hq.out.2.1 Hq.out.2.2 H3.out.1 H3.out.2.1 H3.out.2.2.1)
        clear HT HSt Hq H3 u4 uz hHeld y4 y5 y6 y7 y8 z4 HF
        go_wp2_with fail
        first | refine bodyPost_end (results_none rfl _ _ _) rfl ?_ | refine bodyPost_ret (results_none rfl _ _ _) rfl ?_
        exact ⟨rfl, HR.out⟩
end
end Go.Proofs.YtgbclfhgpkmcnaaGreatDoor

/-
  A worker's step of package mark: what choose comes to, and Step of a worker ('wstep_any').
-/
namespace Go.Proofs.YtgbclfhgpkmcnaaGreatDoor
open Go.RowKit
set_option linter.unusedVariables false

theorem Out.same {P : MP} {I : Ids} {k : Nat} {ds : List Nat} {w w' : World} {b : Nat} {B : List Nat} {S S' : MS} {x : MW} (h : Out P I k ds w b B S x w') (h1 : S'.l = S.l) (h2 : S'.sz = S.sz) (h3 : S'.fault = S.fault) (h4 : S'.hs = S.hs) (h5 : S'.cs = S.cs) : Out P I k ds w b B S' x w' := by
  obtain ⟨B', C, W, hB, T⟩ := h
  exact ⟨B', C.same h1 h2 h3 h4 h5, W, hB, T⟩

section
variable (P : MP) (I : Ids) (k : Nat) (ds : List Nat) (w : World) (S : MS) (b : Nat) (B : List Nat) (x : MW)

/-- A call from choose that comes to its end. -/
def ChK (w : World) (K : Nat) (b : Nat) (Q : World → Prop) : Prop := Calls Tryz.prog K #[.pointer (some ⟨b, 0, none⟩)] w fun e w' => e = .returned (.tuple #[]) ∧ Q w'

set_option maxRecDepth 100000 in
theorem choose_hands (Q : World → Prop) (n cap : Nat) (ao : Option Addr) (hn : 0 < n) (f3 : w.cell? ⟨b, 3, none⟩ = some (.slice ao n cap)) (hC : ChK w 73 b Q) : ChK w 67 b Q := by
  unfold ChK at *
  have HC := hide hC
  have e : (0 : Int) < (n : Int) := by omega
  clear hC
  go_enter Tryz.func67, Tryz.ntmps67
  go_wp2_with fail
  refine HC.out.mono ?_
  rintro e w3 ⟨rfl, hO⟩
  have HO := hide hO
  clear hO HC
  go_wp2_with fail
  first | refine bodyPost_end (results_none rfl _ _ _) rfl ?_ | refine bodyPost_ret (results_none rfl _ _ _) rfl ?_
  exact ⟨rfl, HO.out⟩
set_option maxRecDepth 100000 in
theorem choose_places (Q : World → Prop) (n cap cap3 : Nat) (ao ao3 : Option Addr) (hn : 0 < n) (f3 : w.cell? ⟨b, 3, none⟩ = some (.slice ao3 0 cap3)) (f9 : w.cell? ⟨b, 9, none⟩ = some (.slice ao n cap)) (hC : ChK w 74 b Q) : ChK w 67 b Q := by
  unfold ChK at *
  have HC := hide hC
  have e : (0 : Int) < (n : Int) := by omega
  clear hC
  go_enter Tryz.func67, Tryz.ntmps67
  go_wp2_with fail
  refine HC.out.mono ?_
  rintro e w3 ⟨rfl, hO⟩
  have HO := hide hO
  clear hO HC
  go_wp2_with fail
  first | refine bodyPost_end (results_none rfl _ _ _) rfl ?_ | refine bodyPost_ret (results_none rfl _ _ _) rfl ?_
  exact ⟨rfl, HO.out⟩
set_option maxRecDepth 100000 in
theorem choose_kept (Q : World → Prop) (n cap cap3 cap9 : Nat) (ao ao3 ao9 : Option Addr) (hn : 0 < n) (f3 : w.cell? ⟨b, 3, none⟩ = some (.slice ao3 0 cap3)) (f9 : w.cell? ⟨b, 9, none⟩ = some (.slice ao9 0 cap9)) (f4 : w.cell? ⟨b, 4, none⟩ = some (.slice ao n cap)) (hC : ChK w 75 b Q) : ChK w 67 b Q := by
  unfold ChK at *
  have HC := hide hC
  have e : (0 : Int) < (n : Int) := by omega
  clear hC
  go_enter Tryz.func67, Tryz.ntmps67
  go_wp2_with fail
  refine HC.out.mono ?_
  rintro e w3 ⟨rfl, hO⟩
  have HO := hide hO
  clear hO HC
  go_wp2_with fail
  first | refine bodyPost_end (results_none rfl _ _ _) rfl ?_ | refine bodyPost_ret (results_none rfl _ _ _) rfl ?_
  exact ⟨rfl, HO.out⟩
set_option maxRecDepth 100000 in
theorem choose_ask (Q Q1 : World → Prop) (cap cap3 cap9 : Nat) (ao ao3 ao9 : Option Addr) (f3 : w.cell? ⟨b, 3, none⟩ = some (.slice ao3 0 cap3)) (f9 : w.cell? ⟨b, 9, none⟩ = some (.slice ao9 0 cap9)) (f4 : w.cell? ⟨b, 4, none⟩ = some (.slice ao 0 cap))
    (hA : Calls Tryz.prog 76 #[.pointer (some ⟨b, 0, none⟩), .int .i64 0] w fun e w' => e = .returned (.tuple #[]) ∧ Q1 w') (hC : ∀ w1, Q1 w1 → ChK w1 77 b Q) : ChK w 67 b Q := by
  unfold ChK at *
  have HC := hide hC
  have HA := hide hA
  clear hC hA
  go_enter Tryz.func67, Tryz.ntmps67
  go_wp2_with fail
  refine HA.out.mono ?_
  rintro e w1 ⟨rfl, hQ⟩
  have HC1 := hide (HC.out w1 hQ)
  clear hQ HC HA f3 f4 f9
  go_wp2_with fail
  refine HC1.out.mono ?_
  rintro e w3 ⟨rfl, hO⟩
  have HO := hide hO
  clear hO HC1
  go_wp2_with fail
  first | refine bodyPost_end (results_none rfl _ _ _) rfl ?_ | refine bodyPost_ret (results_none rfl _ _ _) rfl ?_
  exact ⟨rfl, HO.out⟩

/-- choose, whatever there is. -/
theorem choose_any (h : Cx P I k ds w S b B) (hx : WmX w b I.M I.a ds (S.X k) B) (ha : (S.X k).act = .choose) (he : (S.X k).ended = false) (hm : MayM P S k) :
    Calls Tryz.prog 67 #[.pointer (some ⟨b, 0, none⟩)] w fun e w' => e = .returned (.tuple #[]) ∧ Out P I k ds w b B (chooseM P S k (S.X k)) ((chooseM P S k (S.X k)).X k) w' := by
  have hm1 := hm he
  rw [ha] at hm1
  obtain ⟨m1, m2, m3, m4, m5, m7, m6⟩ := hm1
  have hx' := hx
  obtain ⟨gd, cd, hv, kv, pv, gh, gp, O, nx, bl, asked, po, item, pf, hW⟩ := hx'
  have g3 : w.cell? ⟨b, 3, none⟩ = some hv := hW.raw.f 3
  have g9 : w.cell? ⟨b, 9, none⟩ = some pv := hW.raw.f 9
  have g4 : w.cell? ⟨b, 4, none⟩ = some kv := hW.raw.f 4
  obtain ⟨ao3, cap3, e3⟩ := hW.hands.shape
  obtain ⟨ao9, cap9, e9⟩ := hW.places.shape
  have e4 : ∃ ao4 cap4, kv = .slice ao4 (S.X k).kept.length cap4 := by
    rcases hW.kept.2 with ⟨e, h0⟩ | ⟨g, cap, cur, e, _⟩
    · exact ⟨none, 0, by rw [e, h0]⟩
    · exact ⟨_, _, e⟩
  obtain ⟨ao4, cap4, e4⟩ := e4
  subst e3 e9 e4
  unfold chooseM
  cases hh : (S.X k).hands with
  | cons r T =>
    rw [hh] at m4 m6 g3
    simp only [List.length_cons] at m4 g3
    simp only at m6
    refine choose_hands w b _ (T.length + 1) cap3 ao3 (by omega) g3 ?_
    show Calls _ _ _ _ _
    by_cases hr0 : r = 0
    · subst hr0
      simp only [if_true]
      refine (takeRef_zero P I k ds w S b B (S.X k) T h hx hh (by omega)).mono ?_
      rintro e w' ⟨rfl, hO⟩
      exact ⟨rfl, by simp only [updM_at]; exact hO.same rfl rfl rfl rfl rfl⟩
    · simp only [hr0, if_false]
      cases ho : P.obj r with
      | none =>
        simp only
        refine (takeRef_none P I k ds w S b B (S.X k) r T h hx hh (by omega) hr0 m6 m1 ho).mono ?_
        rintro e w' ⟨rfl, hO⟩
        exact ⟨rfl, by simp only [updM_at]; exact hO.same rfl rfl rfl rfl rfl⟩
      | some bk =>
        simp only
        refine (takeRef_some P I k ds w S b B (S.X k) r T h hx hh (by omega) hr0 m6 m1 bk ho).mono ?_
        rintro e w' ⟨rfl, hO⟩
        exact ⟨rfl, by simp only [updM_at]; exact hO.same rfl rfl rfl rfl rfl⟩
  | nil =>
    rw [hh] at m6 g3
    simp only at m6
    cases hp : (S.X k).places with
    | cons p ps =>
      rw [hp] at m6 g9
      simp only [List.length_cons] at g9
      simp only at m6
      refine choose_places w b _ (ps.length + 1) cap9 cap3 ao9 ao3 (by omega) g3 g9 ?_
      show Calls _ _ _ _ _
      obtain ⟨i, rfl⟩ : ∃ i : Nat, p = i := ⟨p.toNat, by omega⟩
      have hi : i < P.hw.length := by omega
      have hy : P.hw[i]? = some (P.word i) := by
        unfold MP.word
        rw [wordAt_nat]
        simp [hi]
      have hpl : ps.length ≤ 1000000 := by
        rw [hp] at m7
        simp only [List.length_cons] at m7
        omega
      refine (readRef_any P I k ds w S b B (S.X k) i (P.word i) ps h hx ha hh hp hy m1 m3 hpl).mono ?_
      rintro e w' ⟨rfl, hO⟩
      exact ⟨rfl, by simp only [updM_at]; exact hO.same rfl rfl rfl rfl rfl⟩
    | nil =>
      rw [hp] at m6 g9
      simp only at m6
      cases hk : (S.X k).kept.getLast? with
      | some bk =>
        rw [hk] at m6
        simp only at m6 ⊢
        have hkk : (S.X k).kept = (S.X k).kept.dropLast ++ [bk] := by
          obtain ⟨ys, hys⟩ := List.getLast?_eq_some_iff.1 hk
          rw [hys]
          simp
        have hl : (S.X k).kept.length = (S.X k).kept.dropLast.length + 1 := by
          have := congrArg List.length hkk
          simpa using this
        refine choose_kept w b _ (S.X k).kept.length cap4 cap3 cap9 ao4 ao3 ao9 (by omega) g3 g9 g4 ?_
        show Calls _ _ _ _ _
        refine (takeKept_any P I k ds w S b B (S.X k) (S.X k).kept.dropLast bk h hx ha hkk (by omega) m3 m6.1 m6.2).mono ?_
        rintro e w' ⟨rfl, hO⟩
        rw [hh, hp] at hO
        exact ⟨rfl, by simp only [updM_at]; exact hO.same rfl rfl rfl rfl rfl⟩
      | none =>
        rw [hk] at m6
        simp only at m6 ⊢
        have hk0 : (S.X k).kept = [] := List.getLast?_eq_none_iff.1 hk
        rw [hk0] at g4
        refine choose_ask w b _ (Out P I k ds w b B S (askW P (S.X k) 0)) cap4 cap3 cap9 ao4 ao3 ao9 g3 g9 g4 (ask_any P I k ds w S b B (S.X k) 0 h hx (by omega)) (fun w1 hO => ?_)
        obtain ⟨B1, C1, W1, hB1, T1⟩ := hO
        have hn0 : 0 < P.n := by have := h.ne; omega
        have eask : askW P (S.X k) 0 = { S.X k with act := .take 0 (opNew .popReadBottom 0) } := by
          unfold askW
          rw [if_neg (by omega), if_pos rfl]
        rw [eask] at W1
        show Calls _ _ _ _ _
        refine (take_any P I k ds w1 S b B1 _ 0 (opNew .popReadBottom 0) C1 W1 rfl hn0 rfl m6 m2).mono ?_
        rintro e w' ⟨rfl, hO⟩
        refine ⟨rfl, ?_⟩
        have hO2 := hO.trans T1 hB1
        unfold takeM
        simp only [updM_at]
        have etook : ∀ o : OpS, tookW P { S.X k with act := .take 0 (opNew .popReadBottom 0) } 0 o = tookW P (S.X k) 0 o := fun o => by unfold tookW askW; rfl
        rw [etook] at hO2
        exact hO2.same rfl rfl rfl rfl rfl

/-- What a worker's next function comes to. -/
theorem wnext_any (nx : MStp) (h : Cx P I k ds w S b B) (hx : WmX w b I.M I.a ds (S.X k) B) (hnx : w.cell? ⟨b, 0, none⟩ = some (stpV nx b)) (he : (S.X k).ended = false) (hm : MayM P S k) :
    Calls Tryz.prog nx.fn #[.pointer (some ⟨b, 0, none⟩)] w fun e w' => e = .returned (.tuple #[]) ∧ Out P I k ds w b B (stepM P S k) ((stepM P S k).X k) w' := by
  have hx' := hx
  obtain ⟨gd, cd, hv, kv, pv, gh, gp, O, nx', bl, asked, po, item, pf, hW⟩ := hx'
  have g0 : w.cell? ⟨b, 0, none⟩ = some (stpV nx' b) := hW.raw.f 0
  rw [hnx] at g0
  have enx : nx = nx' := by
    have h1 : stpV nx b = stpV nx' b := Option.some.inj g0
    unfold stpV at h1
    have h2 : nx.fn = nx'.fn := by
      injection h1 with h1 _ _
      injection h1
    cases nx <;> cases nx' <;> first | rfl | (exfalso; revert h2; decide)
  subst enx
  have hact := hW.act
  have hm1 := hm he
  obtain ⟨m1, m2, m3, m4, m5, m7, m6⟩ := hm1
  unfold stepM
  rw [if_neg (by rw [he]; decide)]
  cases ha : (S.X k).act with
  | choose =>
    rw [ha] at hact
    obtain ⟨rfl, _⟩ := hact
    exact choose_any P I k ds w S b B h hx ha he hm
  | mark bk =>
    rw [ha] at hact m6
    obtain ⟨rfl, _⟩ := hact
    refine (wmark_any P I k ds w S b B (S.X k) bk h hx ha m6).mono ?_
    rintro e w' ⟨rfl, hO⟩
    exact ⟨rfl, by simp only [updM_at]; exact hO.same rfl rfl rfl rfl rfl⟩
  | push bk o =>
    rw [ha] at hact m6
    obtain ⟨rfl, _⟩ := hact
    refine (wpush_any P I k ds w S b B (S.X k) bk o h hx ha m6.2 m6.1 m2 m5).mono ?_
    rintro e w' ⟨rfl, hO⟩
    exact ⟨rfl, by simp only [updM_at]; exact hO.same rfl rfl rfl rfl rfl⟩
  | take a o =>
    rw [ha] at hact m6
    obtain ⟨rfl, _⟩ := hact
    refine (take_any P I k ds w S b B (S.X k) a o h hx ha m6.1 m6.2.2 m6.2.1 m2).mono ?_
    rintro e w' ⟨rfl, hO⟩
    exact ⟨rfl, by simp only [takeM, updM_at]; exact hO.same rfl rfl rfl rfl rfl⟩
  | open_ v =>
    rw [ha] at hact m6
    obtain ⟨rfl, _⟩ := hact
    cases ho : P.obj v with
    | none =>
      refine (open_none P I k ds w S b B (S.X k) v h hx ha m6 m1 ho).mono ?_
      rintro e w' ⟨rfl, hO⟩
      exact ⟨rfl, by simp only [ho, updM_at]; exact hO.same rfl rfl rfl rfl rfl⟩
    | some bk =>
      refine (open_some P I k ds w S b B (S.X k) v h hx ha m6 m1 m3 bk ho).mono ?_
      rintro e w' ⟨rfl, hO⟩
      exact ⟨rfl, by simp only [ho, updM_at]; exact hO.same rfl rfl rfl rfl rfl⟩
  | end_ o =>
    rw [ha] at hact m6
    obtain ⟨rfl, _⟩ := hact
    refine (mend_any P I k ds w S b B (S.X k) o h hx ha m6.2.2 m6.1 m6.2.1 m2 he).mono ?_
    rintro e w' ⟨rfl, hO⟩
    exact ⟨rfl, by simp only [updM_at]; exact hO.same rfl rfl rfl rfl rfl⟩
end
end Go.Proofs.YtgbclfhgpkmcnaaGreatDoor

/-
  The calls of a marker of package mark: Step, Done, Seen, Fault.
-/
namespace Go.Proofs.YtgbclfhgpkmcnaaGreatDoor
open Go.RowKit
set_option linter.unusedVariables false

theorem stepM_other (P : MP) (S : MS) {k i : Nat} (h : i ≠ k) : (stepM P S k).X i = S.X i := by
  unfold stepM
  split
  · rfl
  · cases (S.X k).act with
    | choose =>
      simp only [chooseM]
      split
      · split
        · exact updM_ne _ _ h
        · split <;> exact updM_ne _ _ h
      · split
        · exact updM_ne _ _ h
        · split <;> exact updM_ne _ _ h
    | mark bk => exact updM_ne _ _ h
    | push bk o => exact updM_ne _ _ h
    | take a o => exact updM_ne _ _ h
    | open_ v => simp only; split <;> exact updM_ne _ _ h
    | end_ o => exact updM_ne _ _ h
theorem stepM_X (P : MP) (S : MS) (k : Nat) : (stepM P S k).X = updM S.X k ((stepM P S k).X k) := by
  funext i
  by_cases h : i = k
  · subst h; rw [updM_at]
  · rw [updM_ne _ _ h, stepM_other P S h]

section
variable (P : MP) (I : Ids) (w0 w : World) (ds ws : List Nat) (S : MS) (Bs : Nat → List Nat) (k : Nat)

theorem none_false (h : Mk P I w0 w ds ws S Bs) (m : Nat) :
    Calls Tryz.prog 35 #[.pointer (some ⟨I.M, 0, none⟩)] (w.drewN m) fun e w' => e = .returned (.bool false) ∧ w' = w.drewN m := by
  have g3 : (w.drewN m).cell? ⟨I.M, 3, none⟩ = some (.slice (some ⟨I.gw, 0, none⟩) I.n I.cw) := h.mkr.f 3
  have hIn : 1 ≤ I.n := by have := h.n; omega
  generalize w.drewN m = wm at *
  generalize I.n = n at *
  clear h
  have e : ((n : Int) == 0) = false := by simp; omega
  have HE := hide e
  go_enter Tryz.func35, Tryz.ntmps35
  go_wp2_with fail
  go_ret
  first | exact ⟨rfl, rfl⟩ | exact ⟨congrArg (fun v => Ending.returned (Value.bool v)) HE.out, rfl⟩
theorem none_true : ∀ w : World, Calls Tryz.prog 35 #[.pointer none] w fun e w' => e = .returned (.bool true) ∧ w' = w := by
  intro w
  go_enter Tryz.func35, Tryz.ntmps35
  go_wp2_with fail
  go_ret
  exact ⟨rfl, rfl⟩
theorem drewN_zero (w : World) : w.drewN 0 = w := rfl

set_option maxRecDepth 100000 in
set_option maxHeartbeats 2000000 in
theorem mstep_any (hk : k < P.n) (h : Mk P I w0 w ds ws S Bs) (hm : MayM P S k) :
    Calls Tryz.prog 17 #[.pointer (some ⟨I.M, 0, none⟩), .int .i64 k] w fun e w' => e = .returned (.int .i64 (if ((stepM P S k).X k).ended then 2 else 0)) ∧ ∃ Bs', Mk P I w0 w' ds ws (stepM P S k) Bs' := by
  have hn := h.n
  obtain ⟨b, hb⟩ : ∃ b, ws[k]? = some b := ⟨ws[k]'(by omega), by simp⟩
  have HN := hide (none_false P I w0 w ds ws S Bs h 0)
  rw [drewN_zero] at HN
  have g3 : w.cell? ⟨I.M, 3, none⟩ = some (.slice (some ⟨I.gw, 0, none⟩) I.n I.cw) := h.mkr.f 3
  have gk := h.rows k b hb
  have hx := h.wk k b hb
  have hC := h.cx hb
  have hraw : ∃ nx c, WmR w b c ∧ c[0]? = some (stpV nx b) ∧ c[15]? = some (.bool (S.X k).ended) := by
    obtain ⟨gd, cd, hv, kv, pv, gh, gp, O, nx, bl, asked, po, item, pf, hW⟩ := hx
    exact ⟨nx, _, hW.raw, rfl, rfl⟩
  obtain ⟨nx, c, hr, hc0, hc15⟩ := hraw
  have f0 : w.cell? ⟨b, 0, none⟩ = some (stpV nx b) := by rw [hr.f]; exact hc0
  have f15 : w.cell? ⟨b, 15, none⟩ = some (.bool (S.X k).ended) := by rw [hr.f]; exact hc15
  have a1 : ¬ ((k : Int) < 0) := by omega
  have a2 : ¬ ((I.n : Int) ≤ (k : Int)) := by omega
  have hIn : I.n ≤ 4 := by omega
  have hkI : k < I.n := by omega
  cases he : (S.X k).ended
  · have HK := hide (wnext_any P I k (rotL ds k) w S b (Bs k) nx hC hx f0 he hm)
    have HU : Hid (∀ w', Out P I k (rotL ds k) w b (Bs k) (stepM P S k) ((stepM P S k).X k) w' → (w'.cell? ⟨b, 15, none⟩ = some (.bool ((stepM P S k).X k).ended)) ∧ ∃ Bs', Mk P I w0 w' ds ws (stepM P S k) Bs') := by
      intro w' hO
      refine ⟨?_, h.upd hb hO (stepM_X P S k)⟩
      obtain ⟨B', _, W, _, _⟩ := hO
      obtain ⟨gd, cd, hv, kv, pv, gh, gp, O, nx, bl, asked, po, item, pf, hW⟩ := W
      exact hW.raw.f 15
    rw [he] at f15
    generalize (stepM P S k) = S' at *
    generalize (S'.X k).ended = en at *
    generalize I.n = n at *
    clear h hx hC hr hc0 hc15 hb hn
    cases nx
    all_goals (
      simp only [stpV, MStp.fn] at f0 HK
      go_enter Tryz.func17, Tryz.ntmps17
      go_wp2_with fail
      refine HN.out.mono ?_
      rintro e w1 ⟨rfl, hw1⟩
      rw [hw1]
      clear hw1 w1
      go_wp2_with fail
      refine HK.out.mono ?_
      rintro e w2 ⟨rfl, hO⟩
      obtain ⟨u15, hM⟩ := HU.out w2 hO
      have HM := hide hM
      clear hO hM HU HK HN f0 f15 g3 gk
      cases en
      · go_wp2_with fail
        go_ret
        exact ⟨rfl, HM.out⟩
      · go_wp2_with fail
        go_ret
        exact ⟨rfl, HM.out⟩)
  · have hst : stepM P S k = S := by unfold stepM; rw [if_pos he]
    rw [hst, he]
    rw [he] at f15
    have HM := hide h
    generalize I.n = n at *
    clear h hx hC hr hc0 hc15 hb hn f0
    go_enter Tryz.func17, Tryz.ntmps17
    go_wp2_with fail
    refine HN.out.mono ?_
    rintro e w1 ⟨rfl, hw1⟩
    rw [hw1]
    clear hw1 w1
    go_wp2_with fail
    go_ret
    exact ⟨rfl, _, HM.out⟩
end
end Go.Proofs.YtgbclfhgpkmcnaaGreatDoor

/-
  New of package mark: what comes where all may be. (Text by MarkNew.gen.py.)
-/
namespace Go.Proofs.YtgbclfhgpkmcnaaGreatDoor
open Go.RowKit
set_option linter.unusedVariables false
set_option linter.unusedSimpArgs false

set_option maxRecDepth 100000 in
theorem slice_from (g n j : Nat) (hj : j < n) (w : World) : (Instr.slice 84 (.slice (some ⟨g, 0, none⟩) n n) (some (.int .i64 (j : Int))) none none).run Tryz.prog w = .ok (.slice (some ⟨g, j, none⟩) (n - j) (n - j)) w := by
  rw [run_slice_l (P := Tryz.prog) w 84 _ _ _ Tryz.underlying84 .i64 j (by omega) (by omega)]
  show Result.ok (sliced _ (j : Int).toNat n n 1) w = _
  have h : ¬ (n - j = 0) := by omega
  have h2 : ¬ (n ≤ j) := by omega
  by_cases h0 : j = 0 <;> simp [sliced, Addr.add, h, h0, h2] <;> omega
set_option maxRecDepth 100000 in
theorem slice_to (g n j : Nat) (hj : j ≤ n) (w : World) : (Instr.slice 84 (.slice (some ⟨g, 0, none⟩) n n) none (some (.int .i64 (j : Int))) none).run Tryz.prog w = .ok (.slice (some ⟨g, 0, none⟩) j n) w := by
  rw [run_slice_h (P := Tryz.prog) w 84 _ _ _ Tryz.underlying84 .i64 j (by omega) (by omega)]
  show Result.ok (sliced _ 0 (j : Int).toNat n 1) w = _
  simp [sliced, Addr.add]

/-- What New was handed, at a later world. -/
structure N1 (P : MP) (w0 w : World) (ph qh pb qb p q : Nat) (co : Option Addr) (len : Nat) (l : List Int) (sz : Nat → Nat) (hs cs : Int) : Prop where
  mem : Mem w p q l cs
  hm : Mem w ph qh P.hw hs
  cl : CRow w co len P.cl
  bt : Bt.Bts w pb qb P.hw.length (Bt.sidesOf sz)
  tu : Turned [ph, qh, qb, p, q] w0 w
section
variable {P : MP} {w0 w w' : World} {ph qh pb qb p q : Nat} {co : Option Addr} {len : Nat} {l : List Int} {sz : Nat → Nat} {hs cs : Int}
theorem N1.keep (h : N1 P w0 w ph qh pb qb p q co len l sz hs cs) (t : Turned [] w w') : N1 P w0 w' ph qh pb qb p q co len l sz hs cs :=
  ⟨h.mem.turned t (by simp) (by simp), h.hm.turned t (by simp) (by simp), h.cl.turned0 t, h.bt.turned0 t, h.tu.trans (t.mono (by simp))⟩
theorem N1.marker {M : Nat} {c : Array Value} (h : N1 P w0 w ph qh pb qb p q co len l sz hs cs) (hM : MkR w M c) (h0 : M ≠ 0) (hl : w0.heap.size ≤ M) (t : Turned [M] w w') : N1 P w0 w' ph qh pb qb p q co len l sz hs cs := by
  have oM : ∀ e, 83 ≠ e → Off w [M] e := fun e he => Off.one hM he
  exact ⟨h.mem.turned t ((oM _ (by decide)).not h.mem.head) ((oM _ (by decide)).not h.mem.row), h.hm.turned t ((oM _ (by decide)).not h.hm.head) ((oM _ (by decide)).not h.hm.row), h.cl.off t (oM _ (by decide)), Bts.off h.bt t (oM _ (by decide)) (oM _ (by decide)) (by simp; omega), h.tu.trans_new t (fun y hy => by simp at hy; subst hy; exact .inr hl)⟩
end
theorem putL_zeros {l : List Int} : putL l 0 ((List.replicate l.length (0 : Int)).take l.length) = List.replicate l.length 0 := by
  rw [List.take_of_length_le (by simp)]
  unfold putL
  apply List.ext_getElem?
  intro i
  simp [over]
  try omega
theorem made_row (w : World) (N : Nat) (hN : N ≤ 65536) (h0 : 0 < N) : IsRow .i64 (w.alloc (.cells (madeCells #[.int .i64 0] N) 2)) (some ⟨w.heap.size, 0, none⟩) N N (List.replicate N 0) := by
  refine .inr ⟨_, rfl, Nat.le_refl _, by unfold maxLen; omega, by simp, fun i hi => ?_, fun n hn => ?_⟩
  · rw [List.length_replicate] at hi
    rw [Addr.add_lit, cell_of_heap (heap_alloc_new _ _)]
    simp [madeCells, List.getD_eq_getElem?_getD, hi, Nat.mod_one]
  · simp at hn
    rw [hn.2]
    decide

/-- A round of New's loop: what its calls tell, and what is left. -/
theorem Nw.round {M n j g : Nat} {m0 m1 m2 vw : Value} {ds ws : List Nat} {c : Array Value} {wb wr : World} (h : Nw M m0 m1 m2 ds wb wr ws vw) (hd : ds.length = n) (hw : ws.length = j) (hj : j < n) (hn : n ≤ 64) (hg : wb.heap[g]? = some (.cells c 120 (0, 0))) (hcs : ∀ (i d : Nat), ds[i]? = some d → c[i]? = some (pd d)) (hM : M ≠ g) :
    Calls Tryz.prog 55 #[.slice (some ⟨wr.heap.size, 0, none⟩) 2 2] (wr.drew.alloc (.cells #[.slice (some ⟨g, j, none⟩) (n - j) (n - j), .slice (some ⟨g, 0, none⟩) j n] 84)) fun e w1 => ∃ gd cd : Nat, e = .returned (.slice (some ⟨gd, 0, none⟩) n cd) ∧ w1.cell? ⟨M, 3, none⟩ = some vw ∧
      Calls Tryz.prog 54 #[.pointer (some ⟨M, 0, none⟩), .slice (some ⟨gd, 0, none⟩) n cd] w1 fun e w2 => ∃ b, e = .returned (.pointer (some ⟨b, 0, none⟩)) ∧ w2.cell? ⟨M, 3, none⟩ = some vw ∧
        (w2.alloc (.cells #[.pointer (some ⟨b, 0, none⟩)] 77)).ownsRow wb.heap.size 77 1 vw ws.length (ws.map pd) ∧ wb.heap.size ≤ (w2.alloc (.cells #[.pointer (some ⟨b, 0, none⟩)] 77)).heap.size ∧
        ∀ (g3 cap : Nat) (w3 : World), w3.ownsRow wb.heap.size 77 1 (.slice (some ⟨g3, 0, none⟩) (ws.length + 1) cap) (ws ++ [b]).length ((ws ++ [b]).map pd) → Turned vw.ownBlock.toList (w2.alloc (.cells #[.pointer (some ⟨b, 0, none⟩)] 77)) w3 → w3.cell? ⟨M, 3, none⟩ = some vw ∧ w3.frozen? ⟨M, 3, none⟩ = false ∧ Nw M m0 m1 m2 ds wb (w3.setCell ⟨M, 3, none⟩ (.slice (some ⟨g3, 0, none⟩) (ws.length + 1) cap)) (ws ++ [b]) (.slice (some ⟨g3, 0, none⟩) (ws.length + 1) cap) := by
  have t0 : Turned [] wr (wr.drew.alloc (.cells #[.slice (some ⟨g, j, none⟩) (n - j) (n - j), .slice (some ⟨g, 0, none⟩) j n] 84)) := (Turned.refl _ _).drew.alloc _
  have hg1 := t0.at (h.tu.at hg (by simp; exact Ne.symm hM)) (by simp)
  have hnew := heap_alloc_new wr.drew (.cells #[.slice (some ⟨g, j, none⟩) (n - j) (n - j), .slice (some ⟨g, 0, none⟩) j n] 84)
  refine (concat_rot _ g n j wr.heap.size ds c hd hj hn hg1 hcs (cell_of_heap (b := wr.heap.size) hnew 0) (cell_of_heap (b := wr.heap.size) hnew 1)).mono ?_
  rintro e w1 ⟨gd, cd, rfl, hgl, hgd, hrow, t1⟩
  have t01 := t0.trans t1
  have mk1 : MkR w1 M _ := t01.at h.mkr (by simp)
  refine ⟨gd, cd, rfl, mk1.f 3, ?_⟩
  refine (newW_any M gd n cd w1).mono ?_
  rintro e w2 ⟨rfl, hraw, t2, _⟩
  have t02 := t01.trans t2
  have mk2 : MkR w2 M _ := t02.at h.mkr (by simp)
  have t3 : Turned [] w2 (w2.alloc (.cells #[.pointer (some ⟨w1.heap.size, 0, none⟩)] 77)) := (Turned.refl _ _).alloc _
  have t03 := t02.trans t3
  have hsz := h.tu.size
  have hs1 := t01.size
  refine ⟨w1.heap.size, rfl, mk2.f 3, ownsRow_keep h.own (fun k hk => t03.block k (ownsRow_lt h.own k hk).2.1 (by simp)), Nat.le_trans hsz t03.size, fun g3 cap w3 hown tt => ?_⟩
  have mk3 : MkR (w2.alloc (.cells #[.pointer (some ⟨w1.heap.size, 0, none⟩)] 77)) M _ := t03.at h.mkr (by simp)
  have hV : M ∉ vw.ownBlock.toList := fun hm => by
    simp only [Option.mem_toList] at hm
    obtain ⟨_, _, c2, hc2⟩ := ownsRow_lt h.own M hm
    have hm2 := h.mkr
    unfold MkR at hm2
    rw [hc2] at hm2
    cases hm2
  have mk4 : MkR w3 M _ := tt.at mk3 hV
  obtain ⟨cg, frg, hgc⟩ := hgd
  refine ⟨mk4.f 3, mk4.fz 3, h.more (gd := gd) (cd := cd) t03 hs1 ?_ ⟨cg, frg, (t2.trans t3).at hgc (by simp)⟩ ?_ hown tt⟩
  · rw [hd]
    exact hraw.turned t3 (by simp)
  · intro i' d hi
    rw [hw] at hi
    rw [(t2.trans t3).cell (p := ⟨gd, i', none⟩) (lt_of_heap hgc) (by simp)]
    exact hrow i' d hi

set_option maxRecDepth 100000 in
set_option maxHeartbeats 8000000 in
theorem mnew_ok (P : MP) (w : World) (ph qh pb qb p q cb coff clen ccap : Nat) (l : List Int) (sz : Nat → Nat) (hs cs : Int)
    (hP : 1 ≤ P.n ∧ P.n ≤ 4) (hc : 1 ≤ P.cap ∧ P.cap ≤ 64) (ho : P.over ≤ 4096) (hl : l.length = 1 + P.n * (4 + P.cap + P.over)) (hlm : l.length ≤ 65536) (hhm : Mem w ph qh P.hw hs) (hhl : P.hw.length ≤ 65536) (hcl : CRow w (some ⟨cb, coff, none⟩) clen P.cl) (hcn : 0 < clen ∧ clen ≤ 65536)
    (hbt : Bt.Bts w pb qb P.hw.length (Bt.sidesOf sz)) (hbl : Bt.Bl P.hw.length sz) (hmem : Mem w p q l cs) (hne : ph ≠ p ∧ qh ≠ q) (h0 : 0 < w.heap.size) (h5 : 0 ∉ [ph, qh, qb, p, q]) :
    Calls Tryz.prog 30 #[.pointer (some ⟨ph, 0, none⟩), .slice (some ⟨cb, coff, none⟩) clen ccap, .pointer (some ⟨pb, 0, none⟩), .pointer (some ⟨p, 0, none⟩), .int .i64 P.n, .int .i64 P.cap, .int .i64 P.over] w fun e w' => ∃ (M len cp a gw cw : Nat) (co : Option Addr) (ds ws : List Nat), e = .returned (.tuple #[.pointer (some ⟨M, 0, none⟩), .int .i64 0]) ∧ w.heap.size ≤ M ∧ Mk P ⟨M, ph, qh, len, cp, co, pb, qb, a, gw, P.n, cw, p, q, 0⟩ w w' ds ws (MS.fresh (List.replicate l.length 0) sz hs cs) (fun _ => []) := by
  have HN := hide (mneed_ok P.n P.cap P.over (by omega) hc ho w)
  have HW := hide (Bt.words_any _ _ _ w hbt.brd)
  have HL1 := hide (len_mem ph qh P.hw hs w hhm)
  have HL2 := hide (len_mem p q l cs w hmem)
  have hN0 : 0 < l.length := by omega
  have hneed : P.need = 4 + P.cap + P.over := rfl
  have HPut : Hid (Calls Tryz.prog 32 #[.pointer (some ⟨p, 0, none⟩), .int .i64 0, .slice (some ⟨w.heap.size, 0, none⟩) l.length l.length] (w.alloc (.cells (madeCells #[.int .i64 0] l.length) 2)) fun e w' => (∃ k, e = .returned (.int .i64 k)) ∧ N1 P w w' ph qh pb qb p q (some ⟨cb, coff, none⟩) clen (List.replicate l.length 0) sz hs cs) := by
    have t1 : Turned [] w (w.alloc (.cells (madeCells #[.int .i64 0] l.length) 2)) := (Turned.refl _ _).alloc _
    have hr := made_row w l.length hlm hN0
    refine (put_any p q l cs 0 _ l.length l.length _ _ hlm (hmem.turned t1 (by simp) (by simp)) hr).mono ?_
    rintro e w' ⟨rfl, h1, t2⟩
    rw [putL_zeros] at h1
    have hh := hhm.turned t1 (by simp) (by simp)
    have hm := hmem.turned t1 (by simp) (by simp)
    have oT : Off (w.alloc (.cells (madeCells #[.int .i64 0] l.length) 2)) [p, q] 94 ∧ Off (w.alloc (.cells (madeCells #[.int .i64 0] l.length) 2)) [p, q] 76 ∧ Off (w.alloc (.cells (madeCells #[.int .i64 0] l.length) 2)) [p, q] 99 :=
      ⟨Off.cons hm.head (by decide) (Off.one hm.row (by decide)), Off.cons hm.head (by decide) (Off.one hm.row (by decide)), Off.cons hm.head (by decide) (Off.one hm.row (by decide))⟩
    have n1 : ph ≠ q := ne_of_type hhm.head hmem.row (by decide)
    have n2 : qh ≠ p := ne_of_type hhm.row hmem.head (by decide)
    refine ⟨⟨_, rfl⟩, h1, hh.turned t2 (by simp [hne, n1]) (by simp [hne, n2]), (hcl.turned0 t1).off t2 oT.1, Bts.off (hbt.turned0 t1) t2 oT.2.1 oT.2.2 (by simp at h5 ⊢; omega), (t1.mono (by simp)).trans (t2.mono (by simp))⟩
  have HClone : Hid (∀ w', N1 P w w' ph qh pb qb p q (some ⟨cb, coff, none⟩) clen (List.replicate l.length 0) sz hs cs → Calls Tryz.prog 51 #[.slice (some ⟨cb, coff, none⟩) clen ccap] w' fun e w'' => ∃ g cap, e = .returned (.slice (some ⟨g, 0, none⟩) clen cap) ∧ N1 P w w'' ph qh pb qb p q (some ⟨g, 0, none⟩) clen (List.replicate l.length 0) sz hs cs) := by
    intro w' h
    refine (clone_cls cb coff clen ccap P.cl w' h.cl.rd hcn.2 hcn.1).mono ?_
    rintro e w'' ⟨g, cap, rfl, h1, _, t⟩
    have h2 := h.keep t
    exact ⟨g, cap, rfl, h2.mem, h2.hm, h1, h2.bt, h2.tu⟩
  have HQ : Hid (∀ w' co, N1 P w w' ph qh pb qb p q co clen (List.replicate l.length 0) sz hs cs → Calls Tryz.prog 52 #[.pointer (some ⟨p, 0, none⟩), .int .i64 0, .int .i64 P.n] w' fun e w'' => e = .returned (.tuple #[.pointer (some ⟨w'.heap.size, 0, none⟩), .int .i64 0]) ∧ Sh w'' w'.heap.size p q [] ⟨0, P.n, []⟩ (List.replicate l.length 0) cs ∧ N1 P w w'' ph qh pb qb p q co clen (List.replicate l.length 0) sz hs cs ∧ Turned [] w' w'') := by
    intro w' co h
    refine (qnew_ok w' p q _ cs 0 P.n (by simp; omega) (by simpa using hlm) (by omega) h.mem).mono ?_
    rintro e w'' ⟨rfl, h1, t, _⟩
    exact ⟨rfl, h1, h.keep t, t⟩
  have HLd : Hid (∀ w' co a, N1 P w w' ph qh pb qb p q co clen (List.replicate l.length 0) sz hs cs → Sh w' a p q [] ⟨0, P.n, []⟩ (List.replicate l.length 0) cs → Calls Tryz.prog 53 #[.pointer (some ⟨p, 0, none⟩), .int .i64 P.n, .int .i64 P.cap, .int .i64 P.over] w' fun e w'' => ∃ (g : Nat) (ds : List Nat) (c : Array Value), e = .returned (.slice (some ⟨g, 0, none⟩) P.n P.n) ∧ ds.length = P.n ∧ w''.heap[g]? = some (.cells c 120 (0, 0)) ∧ (∀ (i d : Nat), ds[i]? = some d → c[i]? = some (pd d)) ∧ N1 P w w'' ph qh pb qb p q co clen (List.replicate l.length 0) sz hs cs ∧ Sh w'' a p q ds (P.Q 0) (List.replicate l.length 0) cs ∧ Turned [] w' w'') := by
    intro w' co a h hsh
    refine (laid_any P w' p q _ cs hP hc ho (by rw [List.length_replicate, hneed]; omega) (by simpa using hlm) h.mem).mono ?_
    rintro e w'' ⟨g, ds, c, rfl, _, hd, hg, _, hcd, t⟩
    have hsh2 := hsh.turned t (by simp) (by simp) (by simp) (by simp)
    refine ⟨g, ds, c, rfl, hd, hg, fun i d hi => (hcd i d hi).1, h.keep t, ⟨hsh2.head, hsh2.cell, hsh2.most, hsh2.n, ⟨by rw [P.Qlen]; exact hd, by omega⟩, hsh2.mem, fun i d hi => ?_⟩, t⟩
    have hil : i < P.n := by have := (List.getElem?_eq_some_iff.1 hi).1; omega
    rw [P.cOf hil]
    have := (hcd i d hi).2
    unfold MP.dq
    rw [Nat.zero_add, Nat.mod_eq_of_lt hil]
    exact this
  have HFin : Hid (∀ (wb wr : World) (M cp a g : Nat) (co : Option Addr) (cM : Array Value) (ds ws : List Nat) (vw : Value), N1 P w wb ph qh pb qb p q co clen (List.replicate l.length 0) sz hs cs → Sh wb a p q ds (P.Q 0) (List.replicate l.length 0) cs → MkR wb M cM → w.heap.size ≤ M → ds.length = P.n → ws.length = P.n → Nw M (.iface 114 (mv ph co clen cp)) (.pointer (some ⟨pb, 0, none⟩)) (.pointer (some ⟨a, 0, none⟩)) ds wb wr ws vw → ∃ (len cp a gw cw : Nat) (co : Option Addr) (ds ws : List Nat), Mk P ⟨M, ph, qh, len, cp, co, pb, qb, a, gw, P.n, cw, p, q, 0⟩ w wr ds ws (MS.fresh (List.replicate l.length 0) sz hs cs) (fun _ => [])) := by
    intro wb wr M cp a g co cM ds ws vw h hsh hM hwM hd hw hn
    obtain ⟨gw, cw, rfl⟩ : ∃ gw cw, vw = .slice (some ⟨gw, 0, none⟩) P.n cw := by
      rcases hn.own.2 with ⟨_, h1⟩ | ⟨g, cap, cur, e, _⟩
      · omega
      · exact ⟨g, cap, by rw [e, hw]⟩
    exact ⟨_, _, _, _, _, _, _, _, hn.whole hw hd hP h.tu hwM h0 h5 hM h.hm hhl h.cl h.bt hbl hsh hne⟩
  rw [← hl] at HN
  obtain ⟨N, hNe⟩ : ∃ N, N = l.length := ⟨_, rfl⟩
  have hmk := run_make_row' (P := Tryz.prog) 30 2 (.int .i64 0) 8 Tryz.underlying30 Tryz.info2 rfl .i64 .i64 N (by omega) (by omega)
  rw [← hNe] at HN HL2 HPut HClone HQ HLd HFin hN0 ⊢
  have hNz : ¬ ((N : Int) = 0) := by omega
  have hn4 := hP.2
  have hn1 := hP.1
  clear hhm hcl hbt hbl hmem hne h5 hl hlm hc ho hP hhl hcn hneed hNe hN0
  generalize P.hw.length = hln at HW HL1
  generalize hnn : P.n = n at *
  generalize P.cap = cp at *
  generalize P.over = ov at *
  go_enter Tryz.func30, Tryz.ntmps30
  go_wp2_with fail
  refine HN.out.mono ?_
  rintro e wz ⟨rfl, hwz⟩
  rw [hwz]
  clear hwz wz HN
  go_wp2_with fail
  refine HW.out.mono ?_
  rintro e wz ⟨rfl, hwz⟩
  rw [hwz]
  clear hwz wz HW
  go_wp2_with fail
  refine HL1.out.mono ?_
  rintro e wz ⟨rfl, hwz⟩
  rw [hwz]
  clear hwz wz HL1
  go_wp2_with fail
  refine HL2.out.mono ?_
  rintro e wz ⟨rfl, hwz⟩
  rw [hwz]
  clear hwz wz HL2
  go_wp2_with fail
  refine HPut.out.mono ?_
  rintro e w1 ⟨⟨kk, rfl⟩, hn1'⟩
  have HC := hide (HClone.out w1 hn1')
  clear HPut HClone hn1'
  go_wp2_with fail
  refine HC.out.mono ?_
  rintro e w2 ⟨g2, c2, rfl, h2⟩
  have HI2 := hide (h2.keep ((Turned.refl [] w2).alloc (.cells #[.iface 114 (mv ph (some ⟨g2, 0, none⟩) clen c2), .pointer (some ⟨pb, 0, none⟩), .pointer none, .slice none 0 0, .int .i64 0, .int .i64 0] 83)))
  have HM2 : Hid (MkR (w2.alloc (.cells #[.iface 114 (mv ph (some ⟨g2, 0, none⟩) clen c2), .pointer (some ⟨pb, 0, none⟩), .pointer none, .slice none 0 0, .int .i64 0, .int .i64 0] 83)) w2.heap.size #[.iface 114 (mv ph (some ⟨g2, 0, none⟩) clen c2), .pointer (some ⟨pb, 0, none⟩), .pointer none, .slice none 0 0, .int .i64 0, .int .i64 0]) := heap_alloc_new _ _
  have HwM := hide h2.tu.size
  have HQ2 := hide (HQ.out _ _ HI2.out)
  clear HC HQ h2
  go_wp2_with fail
  refine HQ2.out.mono ?_
  rintro e w3 ⟨rfl, hsh3, h3, t3⟩
  generalize hM : w2.heap.size = M at *
  have hMk3 : MkR w3 M _ := t3.at HM2.out (by simp)
  have y2 : w3.cell? ⟨M, 2, none⟩ = some (.pointer none) := hMk3.f 2
  have z2 := hMk3.fz 2
  generalize ha : (w2.alloc (.cells #[.iface 114 (mv ph (some ⟨g2, 0, none⟩) clen c2), .pointer (some ⟨pb, 0, none⟩), .pointer none, .slice none 0 0, .int .i64 0, .int .i64 0] 83)).heap.size = a at *
  have t4 : Turned [M] w3 (w3.setCell ⟨M, 2, none⟩ (.pointer (some ⟨a, 0, none⟩))) := (Turned.refl _ _).setCell (by simp) _
  have hM0 : M ≠ 0 := by have := HwM.out; omega
  have HI4 := hide (h3.marker hMk3 hM0 HwM.out t4)
  have oM : ∀ e, 83 ≠ e → Off w3 [M] e := fun e he => Off.one hMk3 he
  have HS4 := hide (hsh3.off t4 (oM _ (by decide)) (oM _ (by decide)) ((oM _ (by decide)).not hsh3.mem.head) ((oM _ (by decide)).not hsh3.mem.row))
  have HM4 : Hid (MkR (w3.setCell ⟨M, 2, none⟩ (.pointer (some ⟨a, 0, none⟩))) M #[.iface 114 (mv ph (some ⟨g2, 0, none⟩) clen c2), .pointer (some ⟨pb, 0, none⟩), .pointer (some ⟨a, 0, none⟩), .slice none 0 0, .int .i64 0, .int .i64 0]) := heap_setCell_at _ _ 2 _ _ _ hMk3 _
  have HL4 := hide (HLd.out _ _ _ HI4.out HS4.out)
  clear HLd HI2 HM2 HQ2 hsh3 h3 t3 hMk3 t4 oM hM ha HI4 HS4
  go_wp2_with fail
  refine HL4.out.mono ?_
  rintro e wb ⟨g, ds, c, rfl, hdl, hg, hcs, hb, hshb, t5⟩
  have hMb := hide (t5.at HM4.out (k := M) (by simp))
  have HF := hide (fun wr ws vw hw hn => HFin.out wb wr M c2 a g (some ⟨g2, 0, none⟩) _ ds ws vw hb hshb hMb.out HwM.out hdl hw hn)
  have hMg : M ≠ g := fun h => by subst h; have := hMb.out; rw [hg] at this; cases this
  have HNw : Hid (Nw M (.iface 114 (mv ph (some ⟨g2, 0, none⟩) clen c2)) (.pointer (some ⟨pb, 0, none⟩)) (.pointer (some ⟨a, 0, none⟩)) ds wb wb [] (.slice none 0 0)) :=
    ⟨Turned.refl _ _, lt_of_heap hMb.out, hMb.out, World.ownsRow_nil _ _ _ _, fun i b h => by simp at h, fun i j b h => by simp at h⟩
  have HRd : Hid (∀ (j : Nat) (wr : World) (ws : List Nat) (vw : Value), ws.length = j → j < n → Nw M (.iface 114 (mv ph (some ⟨g2, 0, none⟩) clen c2)) (.pointer (some ⟨pb, 0, none⟩)) (.pointer (some ⟨a, 0, none⟩)) ds wb wr ws vw → _) := fun j wr ws vw hw hj hn => hn.round hdl hw hj (by omega) hg hcs hMg
  generalize (.iface 114 (mv ph (some ⟨g2, 0, none⟩) clen c2) : Value) = m0 at *
  clear HFin HM4 HL4 hb hshb t5 hMb hMg hg hcs hdl
  go_wp2_with fail
  go_loopg [19, 71, 72, 73, 74, 75, 76, 77, 78, 79, 80, 81, 82, 83, 84, 85, 86, 87, 88, 89, 90, 91, 92, 93] n (fun gg _ s71 _ _ _ _ _ _ _ _ _ _ _ _ _ _ _ _ _ _ _ _ _ _ wr => ∃ (j : Nat) (ws : List Nat) (vw : Value), s71 = .int .i64 (j : Int) ∧ j ≤ n ∧ n - j ≤ gg ∧ ws.length = j ∧ Aside (Nw M m0 (.pointer (some ⟨pb, 0, none⟩)) (.pointer (some ⟨a, 0, none⟩)) ds wb wr ws vw))
  case atStart => exact ⟨0, [], _, rfl, Nat.zero_le _, by omega, rfl, HNw.out⟩
  case round =>
    obtain ⟨j, ws, vw, rfl, hj, hgg, hwl, HI⟩ := hrel
    by_cases hlt : j < n
    · have hltz : (j : Int) < (n : Int) := by omega
      have hR := hide (HRd.out j wr ws vw hwl hlt HI.out)
      have sl1 := slice_from g n j hlt
      have sl2 := slice_to g n j (Nat.le_of_lt hlt)
      have y0 : wr.cell? ⟨M, 3, none⟩ = some vw := HI.out.mkr.f 3
      have lt0 := block_lt y0
      clear HRd HI HNw HF
      go_wp2_with fail
      refine wp_region_held_drew (S := (fun _ => True)) (by kernel_rfl) trivial (fun hHeld => ?_)
      refine wpAnyH_take (i := 0) (v := ?_) rfl (by kernel_rfl) (by kernel_rfl) (by kernel_rfl) (fun _ _ _ h => h) (Or.inl ⟨by rfl, ?_⟩) (by assumption) ?_
      rotate_left
      · (intro w hSw; (try dsimp only at hSw); go_simp; all_goals with_reducible rfl)
      (try simp only [List.getElem_toArray, List.getElem_cons_succ, List.getElem_cons_zero, Act.put, List.setIfInBounds_toArray, List.set_cons_zero, List.set_cons_succ])
      refine wpAnyH_take (i := 1) (v := ?_) rfl (by kernel_rfl) (by kernel_rfl) (by kernel_rfl) (fun _ _ _ h => h) (Or.inl ⟨by rfl, ?_⟩) (by assumption) ?_
      rotate_left
      · (intro w hSw; (try dsimp only at hSw); go_simp; all_goals with_reducible rfl)
      (try simp only [List.getElem_toArray, List.getElem_cons_succ, List.getElem_cons_zero, Act.put, List.setIfInBounds_toArray, List.set_cons_zero, List.set_cons_succ])
      refine wpAnyH_take (i := 2) (v := ?_) rfl (by kernel_rfl) (by kernel_rfl) (by kernel_rfl) (fun _ _ _ h => h) (Or.inl ⟨by rfl, ?_⟩) (by assumption) ?_
      rotate_left
      · (intro w hSw; (try dsimp only at hSw); go_simp; all_goals with_reducible rfl)
      (try simp only [List.getElem_toArray, List.getElem_cons_succ, List.getElem_cons_zero, Act.put, List.setIfInBounds_toArray, List.set_cons_zero, List.set_cons_succ])
      refine wpAnyH_take (i := 3) (v := ?_) rfl (by kernel_rfl) (by kernel_rfl) (by kernel_rfl) (fun _ _ _ h => h) (Or.inl ⟨by rfl, ?_⟩) (by assumption) ?_
      rotate_left
      · (intro w hSw; (try dsimp only at hSw); go_simp; all_goals with_reducible rfl)
      (try simp only [List.getElem_toArray, List.getElem_cons_succ, List.getElem_cons_zero, Act.put, List.setIfInBounds_toArray, List.set_cons_zero, List.set_cons_succ])
      refine wpAnyH_take (i := 5) (v := ?_) rfl (by kernel_rfl) (by kernel_rfl) (by kernel_rfl) (fun _ _ _ h => h) (Or.inl ⟨by rfl, ?_⟩) (by assumption) ?_
      rotate_left
      · (intro w hSw; (try dsimp only at hSw); go_simp; all_goals with_reducible rfl)
      (try simp only [List.getElem_toArray, List.getElem_cons_succ, List.getElem_cons_zero, Act.put, List.setIfInBounds_toArray, List.set_cons_zero, List.set_cons_succ])
      refine wpAnyH_take (i := 6) (v := ?_) rfl (by kernel_rfl) (by kernel_rfl) (by kernel_rfl) (fun _ _ _ h => h) (Or.inl ⟨by rfl, ?_⟩) (by assumption) ?_
      rotate_left
      · (intro w hSw; (try dsimp only at hSw); go_simp; all_goals with_reducible rfl)
      (try simp only [List.getElem_toArray, List.getElem_cons_succ, List.getElem_cons_zero, Act.put, List.setIfInBounds_toArray, List.set_cons_zero, List.set_cons_succ])
      refine wpAnyH_take (i := 7) (v := ?_) rfl (by kernel_rfl) (by kernel_rfl) (by kernel_rfl) (fun _ _ _ h => h) (Or.inl ⟨by rfl, ?_⟩) (by assumption) ?_
      rotate_left
      · (intro w hSw; (try dsimp only at hSw); go_simp; all_goals with_reducible rfl)
      (try simp only [List.getElem_toArray, List.getElem_cons_succ, List.getElem_cons_zero, Act.put, List.setIfInBounds_toArray, List.set_cons_zero, List.set_cons_succ])
      refine wpAnyH_take (i := 8) (v := ?_) rfl (by kernel_rfl) (by kernel_rfl) (by kernel_rfl) (fun _ _ _ h => h) (Or.inl ⟨by rfl, ?_⟩) (by assumption) ?_
      rotate_left
      · (intro w hSw; (try dsimp only at hSw); go_simp; all_goals with_reducible rfl)
      (try simp only [List.getElem_toArray, List.getElem_cons_succ, List.getElem_cons_zero, Act.put, List.setIfInBounds_toArray, List.set_cons_zero, List.set_cons_succ])
      refine wpAnyH_take (i := 9) (v := ?_) rfl (by kernel_rfl) (by kernel_rfl) (by kernel_rfl) (fun _ _ _ h => h) (Or.inl ⟨by rfl, ?_⟩) (by assumption) ?_
      rotate_left
      · (intro w hSw; (try dsimp only at hSw); go_simp; all_goals with_reducible rfl)
      (try simp only [List.getElem_toArray, List.getElem_cons_succ, List.getElem_cons_zero, Act.put, List.setIfInBounds_toArray, List.set_cons_zero, List.set_cons_succ])
      refine wpAnyH_take (i := 10) (v := ?_) rfl (by kernel_rfl) (by kernel_rfl) (by kernel_rfl) (fun _ _ _ h => h) (Or.inl ⟨by rfl, ?_⟩) (by assumption) ?_
      rotate_left
      · (intro w hSw; (try dsimp only at hSw); go_simp; all_goals with_reducible rfl)
      (try simp only [List.getElem_toArray, List.getElem_cons_succ, List.getElem_cons_zero, Act.put, List.setIfInBounds_toArray, List.set_cons_zero, List.set_cons_succ])
      refine wpAnyH_take (i := 11) (v := ?_) rfl (by kernel_rfl) (by kernel_rfl) (by kernel_rfl) (fun _ _ _ h => h) (Or.inl ⟨by rfl, ?_⟩) (by assumption) ?_
      rotate_left
      · (intro w hSw; (try dsimp only at hSw); go_simp; all_goals with_reducible rfl)
      (try simp only [List.getElem_toArray, List.getElem_cons_succ, List.getElem_cons_zero, Act.put, List.setIfInBounds_toArray, List.set_cons_zero, List.set_cons_succ])
      refine wpAnyH_ready (rs := [4, 12]) (by kernel_rfl) (by simp) ?_
      refine AllReadyH.cons rfl (fun K hK => ?_) ?_
      · (try simp only [List.getElem_toArray, List.getElem_cons_succ, List.getElem_cons_zero])
        go_simp
        refine hK.out _ _ ?_ (fun hHeld => ?_)
        · trivial
        clear hK K
        (try simp only [List.getElem_toArray, List.getElem_cons_succ, List.getElem_cons_zero, Act.put, List.setIfInBounds_toArray, List.set_cons_zero, List.set_cons_succ])
        refine wpAnyH_ready (rs := [12]) (by kernel_rfl) (by simp) ?_
        refine AllReadyH.cons rfl (fun K hK => ?_) AllReadyH.nil
        (try simp only [List.getElem_toArray, List.getElem_cons_succ, List.getElem_cons_zero])
        go_simp
        refine hK.out _ _ ?_ (fun hHeld => ?_)
        · trivial
        clear hK K
        (try simp only [List.getElem_toArray, List.getElem_cons_succ, List.getElem_cons_zero, Act.put, List.setIfInBounds_toArray, List.set_cons_zero, List.set_cons_succ])
        refine wpAnyH_ready (rs := [13]) (by kernel_rfl) (by simp) ?_
        refine AllReadyH.cons rfl (fun K hK => ?_) AllReadyH.nil
        (try simp only [List.getElem_toArray, List.getElem_cons_succ, List.getElem_cons_zero])
        go_simp
        refine hR.out.mono ?_
        rintro e w1 ⟨gd, cd, rfl, y1, A1⟩
        have lt1 := block_lt y1
        have HA1 := hide A1
        clear A1 hR
        refine hK.out _ _ ?_ (fun hHeld => ?_)
        · trivial
        clear hK K
        (try simp only [List.getElem_toArray, List.getElem_cons_succ, List.getElem_cons_zero, Act.put, List.setIfInBounds_toArray, List.set_cons_zero, List.set_cons_succ])
        refine wpAnyH_ready (rs := [14]) (by kernel_rfl) (by simp) ?_
        refine AllReadyH.cons rfl (fun K hK => ?_) AllReadyH.nil
        (try simp only [List.getElem_toArray, List.getElem_cons_succ, List.getElem_cons_zero])
        go_simp
        refine HA1.out.mono ?_
        rintro e w2 ⟨b, rfl, y2, A2, A3, A4⟩
        have lt2 := block_lt y2
        have HA2 := hide (And.intro A2 (And.intro A3 A4))
        clear A2 A3 A4 HA1
        refine hK.out _ _ ?_ (fun hHeld => ?_)
        · trivial
        clear hK K
        (try simp only [List.getElem_toArray, List.getElem_cons_succ, List.getElem_cons_zero, Act.put, List.setIfInBounds_toArray, List.set_cons_zero, List.set_cons_succ])
        refine wpAnyH_ready (rs := [15]) (by kernel_rfl) (by simp) ?_
        refine AllReadyH.cons rfl (fun K hK => ?_) AllReadyH.nil
        (try simp only [List.getElem_toArray, List.getElem_cons_succ, List.getElem_cons_zero])
        go_simp
        refine hK.out _ _ ?_ (fun hHeld => ?_)
        · trivial
        clear hK K
        (try simp only [List.getElem_toArray, List.getElem_cons_succ, List.getElem_cons_zero, Act.put, List.setIfInBounds_toArray, List.set_cons_zero, List.set_cons_succ])
        refine wpAnyH_ready (rs := [16]) (by kernel_rfl) (by simp) ?_
        refine AllReadyH.cons rfl (fun K hK => ?_) AllReadyH.nil
        (try simp only [List.getElem_toArray, List.getElem_cons_succ, List.getElem_cons_zero])
        refine of_wanted (by rfl) ?_
        refine wp_append_ws (w2.alloc (.cells #[.pointer (some ⟨b, 0, none⟩)] 77)) (.tmp 78) (.tmp 89) ?_ wb.heap.size HA2.out.2.1 vw ws b ?_ HA2.out.1 w2.heap.size ?_ (cell_of_heap (heap_alloc_new w2 _) 0) (by omega) ?_
        · rfl
        · rfl
        · rfl
        intro g3 cap3 w3 q1 q2
        obtain ⟨y3, z3, hN3⟩ := HA2.out.2.2 g3 cap3 w3 q1 q2
        have HN3 := hide hN3
        have lt3 := block_lt y3
        clear q1 q2 hN3 HA2
        refine hK.out _ _ ?_ (fun hHeld => ?_)
        · trivial
        clear hK K
        (try simp only [List.getElem_toArray, List.getElem_cons_succ, List.getElem_cons_zero, Act.put, List.setIfInBounds_toArray, List.set_cons_zero, List.set_cons_succ])
        refine wpAnyH_take (i := 17) (v := ?_) rfl (by kernel_rfl) (by kernel_rfl) (by kernel_rfl) (fun _ _ _ h => h) (Or.inl ⟨by rfl, ?_⟩) (by assumption) ?_
        rotate_left
        · (intro w hSw; (try dsimp only at hSw); go_simp; all_goals with_reducible rfl)
        (try simp only [List.getElem_toArray, List.getElem_cons_succ, List.getElem_cons_zero, Act.put, List.setIfInBounds_toArray, List.set_cons_zero, List.set_cons_succ])
        refine wpAnyH_take (i := 18) (v := ?_) rfl (by kernel_rfl) (by kernel_rfl) (by kernel_rfl) (fun _ _ _ h => h) (Or.inl ⟨by rfl, ?_⟩) (by assumption) ?_
        rotate_left
        · (intro w hSw; (try dsimp only at hSw); go_simp; all_goals with_reducible rfl)
        (try simp only [List.getElem_toArray, List.getElem_cons_succ, List.getElem_cons_zero, Act.put, List.setIfInBounds_toArray, List.set_cons_zero, List.set_cons_succ])
        refine wpAnyH_ready (rs := [19]) (by kernel_rfl) (by simp) ?_
        refine AllReadyH.cons rfl (fun K hK => ?_) AllReadyH.nil
        (try simp only [List.getElem_toArray, List.getElem_cons_succ, List.getElem_cons_zero])
        go_simp
        refine hK.out _ _ ?_ (fun hHeld => ?_)
        · trivial
        clear hK K
        (try simp only [List.getElem_toArray, List.getElem_cons_succ, List.getElem_cons_zero, Act.put, List.setIfInBounds_toArray, List.set_cons_zero, List.set_cons_succ])
        refine wpAnyH_done (by kernel_rfl) ?_ _
        have hlen2 : (ws ++ [b]).length = j + 1 := by simp [hwl]
        clear y0 y1 y2 y3 z3 lt0 lt1 lt2 lt3 hHeld sl1 sl2
        go_wp2_with fail
        go_roundg (n - (j + 1))
        case measure => omega
        case rel => exact ⟨j + 1, ws ++ [b], _, by go_num, by omega, Nat.le_refl _, hlen2, (by have h := HN3.out; rw [hwl] at h; exact h)⟩
      · refine AllReadyH.cons rfl (fun K hK => ?_) AllReadyH.nil
        (try simp only [List.getElem_toArray, List.getElem_cons_succ, List.getElem_cons_zero])
        go_simp
        refine hK.out _ _ ?_ (fun hHeld => ?_)
        · trivial
        clear hK K
        (try simp only [List.getElem_toArray, List.getElem_cons_succ, List.getElem_cons_zero, Act.put, List.setIfInBounds_toArray, List.set_cons_zero, List.set_cons_succ])
        refine wpAnyH_ready (rs := [4, 13]) (by kernel_rfl) (by simp) ?_
        refine AllReadyH.cons rfl (fun K hK => ?_) ?_
        · (try simp only [List.getElem_toArray, List.getElem_cons_succ, List.getElem_cons_zero])
          go_simp
          refine hK.out _ _ ?_ (fun hHeld => ?_)
          · trivial
          clear hK K
          (try simp only [List.getElem_toArray, List.getElem_cons_succ, List.getElem_cons_zero, Act.put, List.setIfInBounds_toArray, List.set_cons_zero, List.set_cons_succ])
          refine wpAnyH_ready (rs := [13]) (by kernel_rfl) (by simp) ?_
          refine AllReadyH.cons rfl (fun K hK => ?_) AllReadyH.nil
          (try simp only [List.getElem_toArray, List.getElem_cons_succ, List.getElem_cons_zero])
          go_simp
          refine hR.out.mono ?_
          rintro e w1 ⟨gd, cd, rfl, y1, A1⟩
          have lt1 := block_lt y1
          have HA1 := hide A1
          clear A1 hR
          refine hK.out _ _ ?_ (fun hHeld => ?_)
          · trivial
          clear hK K
          (try simp only [List.getElem_toArray, List.getElem_cons_succ, List.getElem_cons_zero, Act.put, List.setIfInBounds_toArray, List.set_cons_zero, List.set_cons_succ])
          refine wpAnyH_ready (rs := [14]) (by kernel_rfl) (by simp) ?_
          refine AllReadyH.cons rfl (fun K hK => ?_) AllReadyH.nil
          (try simp only [List.getElem_toArray, List.getElem_cons_succ, List.getElem_cons_zero])
          go_simp
          refine HA1.out.mono ?_
          rintro e w2 ⟨b, rfl, y2, A2, A3, A4⟩
          have lt2 := block_lt y2
          have HA2 := hide (And.intro A2 (And.intro A3 A4))
          clear A2 A3 A4 HA1
          refine hK.out _ _ ?_ (fun hHeld => ?_)
          · trivial
          clear hK K
          (try simp only [List.getElem_toArray, List.getElem_cons_succ, List.getElem_cons_zero, Act.put, List.setIfInBounds_toArray, List.set_cons_zero, List.set_cons_succ])
          refine wpAnyH_ready (rs := [15]) (by kernel_rfl) (by simp) ?_
          refine AllReadyH.cons rfl (fun K hK => ?_) AllReadyH.nil
          (try simp only [List.getElem_toArray, List.getElem_cons_succ, List.getElem_cons_zero])
          go_simp
          refine hK.out _ _ ?_ (fun hHeld => ?_)
          · trivial
          clear hK K
          (try simp only [List.getElem_toArray, List.getElem_cons_succ, List.getElem_cons_zero, Act.put, List.setIfInBounds_toArray, List.set_cons_zero, List.set_cons_succ])
          refine wpAnyH_ready (rs := [16]) (by kernel_rfl) (by simp) ?_
          refine AllReadyH.cons rfl (fun K hK => ?_) AllReadyH.nil
          (try simp only [List.getElem_toArray, List.getElem_cons_succ, List.getElem_cons_zero])
          refine of_wanted (by rfl) ?_
          refine wp_append_ws (w2.alloc (.cells #[.pointer (some ⟨b, 0, none⟩)] 77)) (.tmp 78) (.tmp 89) ?_ wb.heap.size HA2.out.2.1 vw ws b ?_ HA2.out.1 w2.heap.size ?_ (cell_of_heap (heap_alloc_new w2 _) 0) (by omega) ?_
          · rfl
          · rfl
          · rfl
          intro g3 cap3 w3 q1 q2
          obtain ⟨y3, z3, hN3⟩ := HA2.out.2.2 g3 cap3 w3 q1 q2
          have HN3 := hide hN3
          have lt3 := block_lt y3
          clear q1 q2 hN3 HA2
          refine hK.out _ _ ?_ (fun hHeld => ?_)
          · trivial
          clear hK K
          (try simp only [List.getElem_toArray, List.getElem_cons_succ, List.getElem_cons_zero, Act.put, List.setIfInBounds_toArray, List.set_cons_zero, List.set_cons_succ])
          refine wpAnyH_take (i := 17) (v := ?_) rfl (by kernel_rfl) (by kernel_rfl) (by kernel_rfl) (fun _ _ _ h => h) (Or.inl ⟨by rfl, ?_⟩) (by assumption) ?_
          rotate_left
          · (intro w hSw; (try dsimp only at hSw); go_simp; all_goals with_reducible rfl)
          (try simp only [List.getElem_toArray, List.getElem_cons_succ, List.getElem_cons_zero, Act.put, List.setIfInBounds_toArray, List.set_cons_zero, List.set_cons_succ])
          refine wpAnyH_take (i := 18) (v := ?_) rfl (by kernel_rfl) (by kernel_rfl) (by kernel_rfl) (fun _ _ _ h => h) (Or.inl ⟨by rfl, ?_⟩) (by assumption) ?_
          rotate_left
          · (intro w hSw; (try dsimp only at hSw); go_simp; all_goals with_reducible rfl)
          (try simp only [List.getElem_toArray, List.getElem_cons_succ, List.getElem_cons_zero, Act.put, List.setIfInBounds_toArray, List.set_cons_zero, List.set_cons_succ])
          refine wpAnyH_ready (rs := [19]) (by kernel_rfl) (by simp) ?_
          refine AllReadyH.cons rfl (fun K hK => ?_) AllReadyH.nil
          (try simp only [List.getElem_toArray, List.getElem_cons_succ, List.getElem_cons_zero])
          go_simp
          refine hK.out _ _ ?_ (fun hHeld => ?_)
          · trivial
          clear hK K
          (try simp only [List.getElem_toArray, List.getElem_cons_succ, List.getElem_cons_zero, Act.put, List.setIfInBounds_toArray, List.set_cons_zero, List.set_cons_succ])
          refine wpAnyH_done (by kernel_rfl) ?_ _
          have hlen2 : (ws ++ [b]).length = j + 1 := by simp [hwl]
          clear y0 y1 y2 y3 z3 lt0 lt1 lt2 lt3 hHeld sl1 sl2
          go_wp2_with fail
          go_roundg (n - (j + 1))
          case measure => omega
          case rel => exact ⟨j + 1, ws ++ [b], _, by go_num, by omega, Nat.le_refl _, hlen2, (by have h := HN3.out; rw [hwl] at h; exact h)⟩
        · refine AllReadyH.cons rfl (fun K hK => ?_) AllReadyH.nil
          (try simp only [List.getElem_toArray, List.getElem_cons_succ, List.getElem_cons_zero])
          go_simp
          refine hR.out.mono ?_
          rintro e w1 ⟨gd, cd, rfl, y1, A1⟩
          have lt1 := block_lt y1
          have HA1 := hide A1
          clear A1 hR
          refine hK.out _ _ ?_ (fun hHeld => ?_)
          · trivial
          clear hK K
          (try simp only [List.getElem_toArray, List.getElem_cons_succ, List.getElem_cons_zero, Act.put, List.setIfInBounds_toArray, List.set_cons_zero, List.set_cons_succ])
          refine wpAnyH_ready (rs := [4, 14]) (by kernel_rfl) (by simp) ?_
          refine AllReadyH.cons rfl (fun K hK => ?_) ?_
          · (try simp only [List.getElem_toArray, List.getElem_cons_succ, List.getElem_cons_zero])
            go_simp
            refine hK.out _ _ ?_ (fun hHeld => ?_)
            · trivial
            clear hK K
            (try simp only [List.getElem_toArray, List.getElem_cons_succ, List.getElem_cons_zero, Act.put, List.setIfInBounds_toArray, List.set_cons_zero, List.set_cons_succ])
            refine wpAnyH_ready (rs := [14]) (by kernel_rfl) (by simp) ?_
            refine AllReadyH.cons rfl (fun K hK => ?_) AllReadyH.nil
            (try simp only [List.getElem_toArray, List.getElem_cons_succ, List.getElem_cons_zero])
            go_simp
            refine HA1.out.mono ?_
            rintro e w2 ⟨b, rfl, y2, A2, A3, A4⟩
            have lt2 := block_lt y2
            have HA2 := hide (And.intro A2 (And.intro A3 A4))
            clear A2 A3 A4 HA1
            refine hK.out _ _ ?_ (fun hHeld => ?_)
            · trivial
            clear hK K
            (try simp only [List.getElem_toArray, List.getElem_cons_succ, List.getElem_cons_zero, Act.put, List.setIfInBounds_toArray, List.set_cons_zero, List.set_cons_succ])
            refine wpAnyH_ready (rs := [15]) (by kernel_rfl) (by simp) ?_
            refine AllReadyH.cons rfl (fun K hK => ?_) AllReadyH.nil
            (try simp only [List.getElem_toArray, List.getElem_cons_succ, List.getElem_cons_zero])
            go_simp
            refine hK.out _ _ ?_ (fun hHeld => ?_)
            · trivial
            clear hK K
            (try simp only [List.getElem_toArray, List.getElem_cons_succ, List.getElem_cons_zero, Act.put, List.setIfInBounds_toArray, List.set_cons_zero, List.set_cons_succ])
            refine wpAnyH_ready (rs := [16]) (by kernel_rfl) (by simp) ?_
            refine AllReadyH.cons rfl (fun K hK => ?_) AllReadyH.nil
            (try simp only [List.getElem_toArray, List.getElem_cons_succ, List.getElem_cons_zero])
            refine of_wanted (by rfl) ?_
            refine wp_append_ws (w2.alloc (.cells #[.pointer (some ⟨b, 0, none⟩)] 77)) (.tmp 78) (.tmp 89) ?_ wb.heap.size HA2.out.2.1 vw ws b ?_ HA2.out.1 w2.heap.size ?_ (cell_of_heap (heap_alloc_new w2 _) 0) (by omega) ?_
            · rfl
            · rfl
            · rfl
            intro g3 cap3 w3 q1 q2
            obtain ⟨y3, z3, hN3⟩ := HA2.out.2.2 g3 cap3 w3 q1 q2
            have HN3 := hide hN3
            have lt3 := block_lt y3
            clear q1 q2 hN3 HA2
            refine hK.out _ _ ?_ (fun hHeld => ?_)
            · trivial
            clear hK K
            (try simp only [List.getElem_toArray, List.getElem_cons_succ, List.getElem_cons_zero, Act.put, List.setIfInBounds_toArray, List.set_cons_zero, List.set_cons_succ])
            refine wpAnyH_take (i := 17) (v := ?_) rfl (by kernel_rfl) (by kernel_rfl) (by kernel_rfl) (fun _ _ _ h => h) (Or.inl ⟨by rfl, ?_⟩) (by assumption) ?_
            rotate_left
            · (intro w hSw; (try dsimp only at hSw); go_simp; all_goals with_reducible rfl)
            (try simp only [List.getElem_toArray, List.getElem_cons_succ, List.getElem_cons_zero, Act.put, List.setIfInBounds_toArray, List.set_cons_zero, List.set_cons_succ])
            refine wpAnyH_take (i := 18) (v := ?_) rfl (by kernel_rfl) (by kernel_rfl) (by kernel_rfl) (fun _ _ _ h => h) (Or.inl ⟨by rfl, ?_⟩) (by assumption) ?_
            rotate_left
            · (intro w hSw; (try dsimp only at hSw); go_simp; all_goals with_reducible rfl)
            (try simp only [List.getElem_toArray, List.getElem_cons_succ, List.getElem_cons_zero, Act.put, List.setIfInBounds_toArray, List.set_cons_zero, List.set_cons_succ])
            refine wpAnyH_ready (rs := [19]) (by kernel_rfl) (by simp) ?_
            refine AllReadyH.cons rfl (fun K hK => ?_) AllReadyH.nil
            (try simp only [List.getElem_toArray, List.getElem_cons_succ, List.getElem_cons_zero])
            go_simp
            refine hK.out _ _ ?_ (fun hHeld => ?_)
            · trivial
            clear hK K
            (try simp only [List.getElem_toArray, List.getElem_cons_succ, List.getElem_cons_zero, Act.put, List.setIfInBounds_toArray, List.set_cons_zero, List.set_cons_succ])
            refine wpAnyH_done (by kernel_rfl) ?_ _
            have hlen2 : (ws ++ [b]).length = j + 1 := by simp [hwl]
            clear y0 y1 y2 y3 z3 lt0 lt1 lt2 lt3 hHeld sl1 sl2
            go_wp2_with fail
            go_roundg (n - (j + 1))
            case measure => omega
            case rel => exact ⟨j + 1, ws ++ [b], _, by go_num, by omega, Nat.le_refl _, hlen2, (by have h := HN3.out; rw [hwl] at h; exact h)⟩
          · refine AllReadyH.cons rfl (fun K hK => ?_) AllReadyH.nil
            (try simp only [List.getElem_toArray, List.getElem_cons_succ, List.getElem_cons_zero])
            go_simp
            refine HA1.out.mono ?_
            rintro e w2 ⟨b, rfl, y2, A2, A3, A4⟩
            have lt2 := block_lt y2
            have HA2 := hide (And.intro A2 (And.intro A3 A4))
            clear A2 A3 A4 HA1
            refine hK.out _ _ ?_ (fun hHeld => ?_)
            · trivial
            clear hK K
            (try simp only [List.getElem_toArray, List.getElem_cons_succ, List.getElem_cons_zero, Act.put, List.setIfInBounds_toArray, List.set_cons_zero, List.set_cons_succ])
            refine wpAnyH_ready (rs := [4, 15]) (by kernel_rfl) (by simp) ?_
            refine AllReadyH.cons rfl (fun K hK => ?_) ?_
            · (try simp only [List.getElem_toArray, List.getElem_cons_succ, List.getElem_cons_zero])
              go_simp
              refine hK.out _ _ ?_ (fun hHeld => ?_)
              · trivial
              clear hK K
              (try simp only [List.getElem_toArray, List.getElem_cons_succ, List.getElem_cons_zero, Act.put, List.setIfInBounds_toArray, List.set_cons_zero, List.set_cons_succ])
              refine wpAnyH_ready (rs := [15]) (by kernel_rfl) (by simp) ?_
              refine AllReadyH.cons rfl (fun K hK => ?_) AllReadyH.nil
              (try simp only [List.getElem_toArray, List.getElem_cons_succ, List.getElem_cons_zero])
              go_simp
              refine hK.out _ _ ?_ (fun hHeld => ?_)
              · trivial
              clear hK K
              (try simp only [List.getElem_toArray, List.getElem_cons_succ, List.getElem_cons_zero, Act.put, List.setIfInBounds_toArray, List.set_cons_zero, List.set_cons_succ])
              refine wpAnyH_ready (rs := [16]) (by kernel_rfl) (by simp) ?_
              refine AllReadyH.cons rfl (fun K hK => ?_) AllReadyH.nil
              (try simp only [List.getElem_toArray, List.getElem_cons_succ, List.getElem_cons_zero])
              refine of_wanted (by rfl) ?_
              refine wp_append_ws (w2.alloc (.cells #[.pointer (some ⟨b, 0, none⟩)] 77)) (.tmp 78) (.tmp 89) ?_ wb.heap.size HA2.out.2.1 vw ws b ?_ HA2.out.1 w2.heap.size ?_ (cell_of_heap (heap_alloc_new w2 _) 0) (by omega) ?_
              · rfl
              · rfl
              · rfl
              intro g3 cap3 w3 q1 q2
              obtain ⟨y3, z3, hN3⟩ := HA2.out.2.2 g3 cap3 w3 q1 q2
              have HN3 := hide hN3
              have lt3 := block_lt y3
              clear q1 q2 hN3 HA2
              refine hK.out _ _ ?_ (fun hHeld => ?_)
              · trivial
              clear hK K
              (try simp only [List.getElem_toArray, List.getElem_cons_succ, List.getElem_cons_zero, Act.put, List.setIfInBounds_toArray, List.set_cons_zero, List.set_cons_succ])
              refine wpAnyH_take (i := 17) (v := ?_) rfl (by kernel_rfl) (by kernel_rfl) (by kernel_rfl) (fun _ _ _ h => h) (Or.inl ⟨by rfl, ?_⟩) (by assumption) ?_
              rotate_left
              · (intro w hSw; (try dsimp only at hSw); go_simp; all_goals with_reducible rfl)
              (try simp only [List.getElem_toArray, List.getElem_cons_succ, List.getElem_cons_zero, Act.put, List.setIfInBounds_toArray, List.set_cons_zero, List.set_cons_succ])
              refine wpAnyH_take (i := 18) (v := ?_) rfl (by kernel_rfl) (by kernel_rfl) (by kernel_rfl) (fun _ _ _ h => h) (Or.inl ⟨by rfl, ?_⟩) (by assumption) ?_
              rotate_left
              · (intro w hSw; (try dsimp only at hSw); go_simp; all_goals with_reducible rfl)
              (try simp only [List.getElem_toArray, List.getElem_cons_succ, List.getElem_cons_zero, Act.put, List.setIfInBounds_toArray, List.set_cons_zero, List.set_cons_succ])
              refine wpAnyH_ready (rs := [19]) (by kernel_rfl) (by simp) ?_
              refine AllReadyH.cons rfl (fun K hK => ?_) AllReadyH.nil
              (try simp only [List.getElem_toArray, List.getElem_cons_succ, List.getElem_cons_zero])
              go_simp
              refine hK.out _ _ ?_ (fun hHeld => ?_)
              · trivial
              clear hK K
              (try simp only [List.getElem_toArray, List.getElem_cons_succ, List.getElem_cons_zero, Act.put, List.setIfInBounds_toArray, List.set_cons_zero, List.set_cons_succ])
              refine wpAnyH_done (by kernel_rfl) ?_ _
              have hlen2 : (ws ++ [b]).length = j + 1 := by simp [hwl]
              clear y0 y1 y2 y3 z3 lt0 lt1 lt2 lt3 hHeld sl1 sl2
              go_wp2_with fail
              go_roundg (n - (j + 1))
              case measure => omega
              case rel => exact ⟨j + 1, ws ++ [b], _, by go_num, by omega, Nat.le_refl _, hlen2, (by have h := HN3.out; rw [hwl] at h; exact h)⟩
            · refine AllReadyH.cons rfl (fun K hK => ?_) AllReadyH.nil
              (try simp only [List.getElem_toArray, List.getElem_cons_succ, List.getElem_cons_zero])
              go_simp
              refine hK.out _ _ ?_ (fun hHeld => ?_)
              · trivial
              clear hK K
              (try simp only [List.getElem_toArray, List.getElem_cons_succ, List.getElem_cons_zero, Act.put, List.setIfInBounds_toArray, List.set_cons_zero, List.set_cons_succ])
              refine wpAnyH_ready (rs := [4]) (by kernel_rfl) (by simp) ?_
              refine AllReadyH.cons rfl (fun K hK => ?_) AllReadyH.nil
              (try simp only [List.getElem_toArray, List.getElem_cons_succ, List.getElem_cons_zero])
              go_simp
              refine hK.out _ _ ?_ (fun hHeld => ?_)
              · trivial
              clear hK K
              (try simp only [List.getElem_toArray, List.getElem_cons_succ, List.getElem_cons_zero, Act.put, List.setIfInBounds_toArray, List.set_cons_zero, List.set_cons_succ])
              refine wpAnyH_ready (rs := [16]) (by kernel_rfl) (by simp) ?_
              refine AllReadyH.cons rfl (fun K hK => ?_) AllReadyH.nil
              (try simp only [List.getElem_toArray, List.getElem_cons_succ, List.getElem_cons_zero])
              refine of_wanted (by rfl) ?_
              refine wp_append_ws (w2.alloc (.cells #[.pointer (some ⟨b, 0, none⟩)] 77)) (.tmp 78) (.tmp 89) ?_ wb.heap.size HA2.out.2.1 vw ws b ?_ HA2.out.1 w2.heap.size ?_ (cell_of_heap (heap_alloc_new w2 _) 0) (by omega) ?_
              · rfl
              · rfl
              · rfl
              intro g3 cap3 w3 q1 q2
              obtain ⟨y3, z3, hN3⟩ := HA2.out.2.2 g3 cap3 w3 q1 q2
              have HN3 := hide hN3
              have lt3 := block_lt y3
              clear q1 q2 hN3 HA2
              refine hK.out _ _ ?_ (fun hHeld => ?_)
              · trivial
              clear hK K
              (try simp only [List.getElem_toArray, List.getElem_cons_succ, List.getElem_cons_zero, Act.put, List.setIfInBounds_toArray, List.set_cons_zero, List.set_cons_succ])
              refine wpAnyH_take (i := 17) (v := ?_) rfl (by kernel_rfl) (by kernel_rfl) (by kernel_rfl) (fun _ _ _ h => h) (Or.inl ⟨by rfl, ?_⟩) (by assumption) ?_
              rotate_left
              · (intro w hSw; (try dsimp only at hSw); go_simp; all_goals with_reducible rfl)
              (try simp only [List.getElem_toArray, List.getElem_cons_succ, List.getElem_cons_zero, Act.put, List.setIfInBounds_toArray, List.set_cons_zero, List.set_cons_succ])
              refine wpAnyH_take (i := 18) (v := ?_) rfl (by kernel_rfl) (by kernel_rfl) (by kernel_rfl) (fun _ _ _ h => h) (Or.inl ⟨by rfl, ?_⟩) (by assumption) ?_
              rotate_left
              · (intro w hSw; (try dsimp only at hSw); go_simp; all_goals with_reducible rfl)
              (try simp only [List.getElem_toArray, List.getElem_cons_succ, List.getElem_cons_zero, Act.put, List.setIfInBounds_toArray, List.set_cons_zero, List.set_cons_succ])
              refine wpAnyH_ready (rs := [19]) (by kernel_rfl) (by simp) ?_
              refine AllReadyH.cons rfl (fun K hK => ?_) AllReadyH.nil
              (try simp only [List.getElem_toArray, List.getElem_cons_succ, List.getElem_cons_zero])
              go_simp
              refine hK.out _ _ ?_ (fun hHeld => ?_)
              · trivial
              clear hK K
              (try simp only [List.getElem_toArray, List.getElem_cons_succ, List.getElem_cons_zero, Act.put, List.setIfInBounds_toArray, List.set_cons_zero, List.set_cons_succ])
              refine wpAnyH_done (by kernel_rfl) ?_ _
              have hlen2 : (ws ++ [b]).length = j + 1 := by simp [hwl]
              clear y0 y1 y2 y3 z3 lt0 lt1 lt2 lt3 hHeld sl1 sl2
              go_wp2_with fail
              go_roundg (n - (j + 1))
              case measure => omega
              case rel => exact ⟨j + 1, ws ++ [b], _, by go_num, by omega, Nat.le_refl _, hlen2, (by have h := HN3.out; rw [hwl] at h; exact h)⟩
    · have hjm : j = n := by omega
      have hltz : ¬ (j : Int) < (n : Int) := by omega
      have HFn := hide (HF.out wr ws vw (by omega) HI.out)
      go_wp2_with fail
      go_ret2
      obtain ⟨x1, x2, x3, x4, x5, x6, x7, x8, hx⟩ := HFn.out
      exact ⟨M, rfl, HwM.out, x1, x2, x3, x4, x5, x6, x7, x8, hx⟩
end Go.Proofs.YtgbclfhgpkmcnaaGreatDoor

/-
  Texts of the proof, several in one: MarkRoot, MarkAwakeP, MarkBnd.
-/
import Derived.Test.YthpjlhfijkeciaaGreatDoorPack29
import Derived.Test.YthpjlhfijkeciaaGreatDoorPack23
import Derived.BigQuiet
import Derived.Deep.QuietTactic
import Derived.Test.YthpjlhfijkeciaaGreatDoorPack27
import Derived.Test.YthpjlhfijkeciaaGreatDoorPack13
import Derived.Test.YthpjlhfijkeciaaGreatDoorPack24
/-
  Root of package mark: roots are laid in the workers' hands, by turns.
-/
namespace Go.Proofs.YthpjlhfijkeciaaGreatDoor
open Go.RowKit
set_option linter.unusedVariables false

/-- A root, the r-th of all. -/
def rootM (n : Nat) (S : MS) (r : Nat) (y : Int) : MS := { S with X := updM S.X (r % n) { S.X (r % n) with hands := (S.X (r % n)).hands ++ [y] } }
def rootsM (n : Nat) (S : MS) (r : Nat) : List Int → MS
  | [] => S
  | y :: ys => rootsM n (rootM n S r y) (r + 1) ys
theorem rootsM_snoc (n : Nat) (y : Int) : ∀ (T : List Int) (S : MS) (r : Nat), rootsM n S r (T ++ [y]) = rootM n (rootsM n S r T) (r + T.length) y
  | [], S, r => rfl
  | x :: T, S, r => by
    show rootsM n (rootM n S r x) (r + 1) (T ++ [y]) = _
    rw [rootsM_snoc n y T]
    show _ = rootM n (rootsM n (rootM n S r x) (r + 1) T) (r + (T.length + 1)) y
    rw [show r + 1 + T.length = r + (T.length + 1) by omega]
theorem rootM_hands (n : Nat) (S : MS) (r : Nat) (y : Int) (k : Nat) : ((rootM n S r y).X k).hands.length ≤ (S.X k).hands.length + 1 := by
  unfold rootM updM
  simp only
  split
  · rename_i h; subst h; simp
  · omega
theorem rootsM_hands (n : Nat) (k : Nat) : ∀ (T : List Int) (S : MS) (r : Nat), ((rootsM n S r T).X k).hands.length ≤ (S.X k).hands.length + T.length
  | [], S, r => by simp [rootsM]
  | x :: T, S, r => by
    have h1 := rootsM_hands n k T (rootM n S r x) (r + 1)
    have h2 := rootM_hands n S r x k
    simp only [rootsM, List.length_cons]
    omega

section
variable {P : MP} {I : Ids} {w0 w : World} {ds ws : List Nat} {S : MS} {Bs : Nat → List Nat}
/-- A reference is put behind those in a worker's hands. -/
theorem hand_out {k b : Nat} {ds : List Nat} {B : List Nat} {x : MW} {gd cd : Nat} {hv kv pv : Value} {gh gp O : List Nat} {nx : MStp} {bl : Blk} {asked : Int} {po : Option Addr} {item : Int} {pf : Option Addr} (C1 : Cx P I k ds w S b B) (W1 : Wm w b I.M I.a ds x B gd cd hv kv pv gh gp O nx bl asked po item pf) (ha : x.act = .choose) (y : Int) {w3 : World} {b3 off3 cap3 : Nat}
    (q1 : Sl 2 w3 (.slice (some ⟨b3, off3, none⟩) (x.hands.length + 1) cap3) (x.hands ++ [y]) [b3]) (q2 : b3 ∈ gh ∨ (w.alloc (.cells #[.int .i64 y] 2)).heap.size ≤ b3) (q3 : Turned gh (w.alloc (.cells #[.int .i64 y] 2)) w3) :
    WmR w3 b (mwCells nx b I.M gd ds.length cd hv kv bl pv asked po item pf x.seen x.ended) ∧ MkR w3 I.M (I.cells S.fault) ∧ Out P I k ds w b B S { x with hands := x.hands ++ [y] } (w3.setCell ⟨b, 3, none⟩ (.slice (some ⟨b3, off3, none⟩) (x.hands.length + 1) cap3)) := by
  have tA : Turned [] w (w.alloc (.cells #[.int .i64 y] 2)) := (Turned.refl _ _).alloc _
  have C2 := C1.keep0 tA
  have W2 := W1.keep0 tA
  have C3 := C2.keepH W2 q3
  obtain ⟨p1, p2, p3, p4, p5, p6⟩ := W2.partsH q3
  have hgB : ∀ z, z ∈ gh → z ∈ B := fun z hz => by rw [W1.own]; simp [hz]
  have T3 : Turned (I.all b B) w w3 := (tA.mono (by simp)).trans (q3.mono (Ids.inAll (fun z hz => by simp [hgB z hz])))
  have t4 : Turned [b] w3 (w3.setCell ⟨b, 3, none⟩ (.slice (some ⟨b3, off3, none⟩) (x.hands.length + 1) cap3)) := (Turned.refl _ _).setCell (by simp) _
  have raw4 := p3.set 3 (.slice (some ⟨b3, off3, none⟩) (x.hands.length + 1) cap3)
  have hB : ∀ z, z ∈ [b3] ++ (kv.ownBlock.toList ++ (gp ++ O)) → z ∈ B ∨ w.heap.size ≤ z := fun z hz => by
    have ho := W1.own
    rw [ho]
    simp only [List.mem_append, List.mem_singleton] at hz ⊢
    rcases hz with rfl | hz
    · rcases q2 with g | g
      · exact .inl (.inl g)
      · right
        simp at g
        omega
    · exact .inl (.inr hz)
  have hBo : ∀ z, z ∈ B → z ≠ b := fun z hz e => by
    obtain ⟨c2, e2, fr2, g1, g2⟩ := (show WmX _ _ _ _ _ _ _ from ⟨_, _, _, _, _, _, _, _, _, _, _, _, _, _, W1⟩ : WmX w b I.M I.a ds x B).types z hz
    refine ne_of_type g1 W1.raw ?_ e
    rcases g2 with rfl | rfl | rfl | rfl | rfl <;> decide
  have hw := (Off.one p3 (e := 120) (by decide))
  obtain ⟨c8, fr8, hr8⟩ := p1
  have hgd := hw.not hr8
  refine ⟨p3, C3.mkr, _, (C3.keepb p3 t4).own' (B' := [b3] ++ (kv.ownBlock.toList ++ (gp ++ O))) (fun z hz => ?_), ⟨gd, cd, _, kv, pv, [b3], gp, O, nx, bl, asked, po, item, pf, rfl, raw4, ⟨c8, fr8, t4.at hr8 hgd⟩, fun j d hj => by rw [t4.cell (p := ⟨gd, j, none⟩) (lt_of_heap hr8) hgd]; exact p2 j d hj, ?_, p4.turned t4 (fun z hz => ?_), p5.turned t4 (fun z hz => ?_), ?_⟩, fun z hz => hB z hz, T3.trans (t4.mono (Ids.inAll (by simp)))⟩
  · rcases hB z hz with g | g
    · exact .inl g
    · have l1 := C1.hm.ltq
      have l2 := C1.sh.mem.ltq
      exact .inr ⟨by omega, by omega, by omega⟩
  · refine Sl.turned (T := x.hands ++ [y]) ?_ t4 (fun z hz => ?_)
    · exact q1
    · obtain ⟨c9, fr9, g9⟩ := q1.types z hz
      exact (Off.one p3 (by decide)).not g9
  · obtain ⟨c9, fr9, g9⟩ := p4.types z hz
    exact (Off.one p3 (by decide)).not g9
  · obtain ⟨c9, fr9, g9⟩ := p5.types z hz
    exact (Off.one p3 (by decide)).not g9
  · show ActB _ _ _ _ _ _ _ _ _ _ x.act
    rw [ha] at p6 ⊢
    exact p6
/-- What Root goes by at its next ref. -/
theorem Mk.hand (h : Mk P I w0 w ds ws S Bs) (k : Nat) (hk : k < P.n) (ha : (S.X k).act = .choose) (y : Int) :
    ∃ (b : Nat) (hv : Value) (gh : List Nat), w.cell? ⟨I.gw, k, none⟩ = some (.pointer (some ⟨b, 0, none⟩)) ∧ w.cell? ⟨b, 3, none⟩ = some hv ∧ Sl 2 (w.alloc (.cells #[.int .i64 y] 2)) hv (S.X k).hands gh ∧
      ∀ (b3 off3 cap3 : Nat) (w3 : World), Sl 2 w3 (.slice (some ⟨b3, off3, none⟩) ((S.X k).hands.length + 1) cap3) ((S.X k).hands ++ [y]) [b3] → (b3 ∈ gh ∨ (w.alloc (.cells #[.int .i64 y] 2)).heap.size ≤ b3) → Turned gh (w.alloc (.cells #[.int .i64 y] 2)) w3 →
        w3.cell? ⟨b, 3, none⟩ = some hv ∧ w3.frozen? ⟨b, 3, none⟩ = false ∧ (w3.cell? ⟨I.M, 4, none⟩ = some (.int .i64 I.roots) ∧ b ≠ I.M) ∧ w3.frozen? ⟨I.M, 4, none⟩ = false ∧
        ∀ r' : Int, ∃ Bs', Mk P { I with roots := r' } w0 ((w3.setCell ⟨b, 3, none⟩ (.slice (some ⟨b3, off3, none⟩) ((S.X k).hands.length + 1) cap3)).setCell ⟨I.M, 4, none⟩ (.int .i64 r')) ds ws { S with X := updM S.X k { S.X k with hands := (S.X k).hands ++ [y] } } Bs' ∧ (∀ i z, z ∈ Bs' i → z ∈ Bs i ∨ w.heap.size ≤ z) ∧ ∀ z c fr, w.heap[z]? = some (.cells c 2 fr) → z ∉ Bs k → ((w3.setCell ⟨b, 3, none⟩ (.slice (some ⟨b3, off3, none⟩) ((S.X k).hands.length + 1) cap3)).setCell ⟨I.M, 4, none⟩ (.int .i64 r')).heap[z]? = some (.cells c 2 fr) := by
  have hn := h.n
  obtain ⟨b, hb⟩ : ∃ b, ws[k]? = some b := ⟨ws[k]'(by omega), by simp⟩
  obtain ⟨gd, cd, hv, kv, pv, gh, gp, O, nx, bl, asked, po, item, pf, hW⟩ := h.wk k b hb
  have C := h.cx hb
  refine ⟨b, hv, gh, h.rows k b hb, hW.raw.f 3, hW.hands.turned ((Turned.refl [] w).alloc _) (by simp), fun b3 off3 cap3 w3 q1 q2 q3 => ?_⟩
  obtain ⟨r1, r2, hO⟩ := hand_out C hW ha y q1 q2 q3
  obtain ⟨Bs', hM, hB⟩ := h.updB hb (S' := { S with X := updM S.X k { S.X k with hands := (S.X k).hands ++ [y] } }) (by
    obtain ⟨B', C', W', hB', t'⟩ := hO
    exact ⟨B', C'.same rfl rfl rfl rfl rfl, W', hB', t'⟩) rfl
  refine ⟨r1.f 3, r1.fz 3, ⟨r2.f 4, ne_of_type hW.raw h.mkr (by decide)⟩, r2.fz 4, fun r' => ⟨Bs', hM.rooted r', hB, fun z c fr hz h1 => ?_⟩⟩
  have tA : Turned [] w (w.alloc (.cells #[.int .i64 y] 2)) := (Turned.refl _ _).alloc _
  have t1 : Turned (b :: I.M :: gh) w w3 := (tA.mono (by simp)).trans (q3.mono (fun z hz => by simp [hz]))
  have n1 : z ∉ gh := fun hm => h1 (by rw [hW.own]; simp [hm])
  have n2 : z ≠ b := ne_of_type hz hW.raw (by decide)
  have n3 : z ≠ I.M := ne_of_type hz h.mkr (by decide)
  exact ((t1.setCell (p := ⟨b, 3, none⟩) (by simp) _).setCell (p := ⟨I.M, 4, none⟩) (by simp) _).at hz (by simp [n1, n2, n3])

/-- The refs that Root is handed. -/
def RootRd (w : World) (ao : Option Addr) (T : List Int) (n : Nat) (Bs : Nat → List Nat) : Prop :=
  ∀ (i : Nat) x, T[i]? = some x → ∃ b off c fr, ao = some ⟨b, off, none⟩ ∧ w.heap[b]? = some (.cells c 2 fr) ∧ c[off + i]? = some (.int .i64 x) ∧ ∀ j, j < n → b ∉ Bs j

set_option maxRecDepth 100000 in
set_option maxHeartbeats 4000000 in
theorem mroot_any (r : Nat) (T : List Int) (ao : Option Addr) (cap : Nat) (h : Mk P { I with roots := (r : Int) } w0 w ds ws S Bs) (hb : r + T.length ≤ 1000000) (ha : ∀ k, k < P.n → (S.X k).act = .choose) (hh : ∀ k, k < P.n → (S.X k).hands.length ≤ 1000000) (hT : RootRd w ao T P.n Bs) :
    Calls Tryz.prog 14 #[.pointer (some ⟨I.M, 0, none⟩), .slice ao T.length cap] w fun e w' => e = .returned (.tuple #[]) ∧ ∃ Bs', Mk P { I with roots := ((r + T.length : Nat) : Int) } w0 w' ds ws (rootsM P.n S r T) Bs' := by
  have HN := hide (none_false P { I with roots := (r : Int) } w0 w ds ws S Bs h 0)
  have hn := h.n
  have HRound : Hid (∀ (j : Nat) (y : Int) (wr : World) (Bs' : Nat → List Nat), T[j]? = some y → RootRd wr ao T P.n Bs' → Mk P { I with roots := ((r + j : Nat) : Int) } w0 wr ds ws (rootsM P.n S r (T.take j)) Bs' → ∃ zb off, ao = some ⟨zb, off, none⟩ ∧ wr.cell? ⟨zb, off + j, none⟩ = some (.int .i64 y) ∧ wr.cell? ⟨I.M, 3, none⟩ = some (.slice (some ⟨I.gw, 0, none⟩) P.n I.cw) ∧ wr.cell? ⟨I.M, 4, none⟩ = some (.int .i64 ((r + j : Nat) : Int)) ∧
      ∃ (b m : Nat) (hv : Value) (gh : List Nat) (H : List Int), H.length = m ∧ m ≤ 2000000 ∧ wr.cell? ⟨I.gw, (r + j) % P.n, none⟩ = some (.pointer (some ⟨b, 0, none⟩)) ∧ wr.cell? ⟨b, 3, none⟩ = some hv ∧ (∀ d, Sl 2 ((wr.drewN d).alloc (.cells #[.int .i64 y] 2)) hv H gh) ∧
      ∀ (d b3 off3 cap3 : Nat) (w3 : World), Sl 2 w3 (.slice (some ⟨b3, off3, none⟩) (H.length + 1) cap3) (H ++ [y]) [b3] → (b3 ∈ gh ∨ ((wr.drewN d).alloc (.cells #[.int .i64 y] 2)).heap.size ≤ b3) → Turned gh ((wr.drewN d).alloc (.cells #[.int .i64 y] 2)) w3 →
        w3.cell? ⟨b, 3, none⟩ = some hv ∧ w3.frozen? ⟨b, 3, none⟩ = false ∧ (w3.cell? ⟨I.M, 4, none⟩ = some (.int .i64 ((r + j : Nat) : Int)) ∧ b ≠ I.M) ∧ w3.frozen? ⟨I.M, 4, none⟩ = false ∧
        ∃ Bs2, Mk P { I with roots := ((r + (j + 1) : Nat) : Int) } w0 ((w3.setCell ⟨b, 3, none⟩ (.slice (some ⟨b3, off3, none⟩) (H.length + 1) cap3)).setCell ⟨I.M, 4, none⟩ (.int .i64 ((r + (j + 1) : Nat) : Int))) ds ws (rootsM P.n S r (T.take (j + 1))) Bs2 ∧ RootRd ((w3.setCell ⟨b, 3, none⟩ (.slice (some ⟨b3, off3, none⟩) (H.length + 1) cap3)).setCell ⟨I.M, 4, none⟩ (.int .i64 ((r + (j + 1) : Nat) : Int))) ao T P.n Bs2) := by
    intro j y wr Bs' hy hR hM
    have hk : (r + j) % P.n < P.n := Nat.mod_lt _ (by omega)
    have hjl := (List.getElem?_eq_some_iff.1 hy).1
    obtain ⟨zb, off, c, fr, e1, e2, e3, e4⟩ := hR j y hy
    have hact : ∀ (T : List Int) (S : MS) (r : Nat) k, (S.X k).act = .choose → ((rootsM P.n S r T).X k).act = .choose := by
      intro T
      induction T with
      | nil => intro S r k h; exact h
      | cons x T ih =>
        intro S r k h
        refine ih _ _ k ?_
        unfold rootM updM
        simp only
        split
        · rename_i e; subst e; exact h
        · exact h
    obtain ⟨b, hv, gh, f1, f2, f3, f4⟩ := hM.hand ((r + j) % P.n) hk (hact _ _ _ _ (ha _ hk)) y
    have hlen := rootsM_hands P.n ((r + j) % P.n) (T.take j) S r
    have hh2 := hh _ hk
    have htl : (T.take j).length ≤ 1000000 := by simp; omega
    refine ⟨zb, off, e1, by rw [cell_of_heap e2]; exact e3, by rw [hM.mkr.f 3]; show some (Value.slice _ I.n I.cw) = _; rw [hn.2.2.2.2], hM.mkr.f 4, b, _, hv, gh, _, rfl, by omega, f1, f2, fun d => f3, fun d b3 off3 cap3 w3 q1 q2 q3 => ?_⟩
    obtain ⟨g1, g2, g3, g4, g5⟩ := f4 b3 off3 cap3 w3 q1 q2 ⟨q3.os, q3.tape, q3.output, q3.size, q3.block⟩
    obtain ⟨Bs2, k1, k2, k3⟩ := g5 ((r + (j + 1) : Nat) : Int)
    refine ⟨g1, g2, g3, g4, Bs2, ?_, fun i x hx => ?_⟩
    · have e5 : rootsM P.n S r (T.take (j + 1)) = rootM P.n (rootsM P.n S r (T.take j)) (r + j) y := by
        rw [take_snocL hy, rootsM_snoc]
        congr 2
        simp
        omega
      rw [e5]
      exact k1
    · obtain ⟨zb2, off2, c2, fr2, d1, d2, d3, d4⟩ := hR i x hx
      refine ⟨zb2, off2, c2, fr2, d1, k3 zb2 c2 fr2 d2 (d4 _ hk), d3, fun j' hj' hm => ?_⟩
      rcases k2 j' zb2 hm with g | g
      · exact d4 j' hj' g
      · have := lt_of_heap d2
        omega
  have hn4 := hn.2.2.2.1
  have hn1 := hn.2.2.1
  have h00 := hide h
  have hT0 := hide hT
  clear h hn ha hh hT
  have HS0 : Hid (rootsM P.n S r (T.take 0) = S) := rfl
  have HE : Hid (∀ j, T.length ≤ j → T.take j = T) := fun j hj => List.take_of_length_le (by omega)
  have HTl : Hid (∀ j, j < T.length → ∃ y, T[j]? = some y) := fun j hj => ⟨T[j]'(by omega), by simp⟩
  generalize rootsM P.n S r = SS at *
  generalize P.n = n at *
  generalize T.length = L at *
  go_enter Tryz.func14, Tryz.ntmps14
  go_wp2_with fail
  refine HN.out.mono ?_
  rintro e wz ⟨rfl, hwz⟩
  rw [hwz, World.drewN_zero]
  clear hwz wz HN
  go_wp2_with fail
  go_loopg [5, 6, 11, 12, 13, 14, 15, 16, 17, 18, 19, 20, 21, 22, 23, 24, 25, 26, 27, 28, 29, 30, 31, 32, 33, 34, 35, 36, 37, 38, 39, 40, 41, 42, 43, 44, 45, 46, 47, 48] L (fun gg _ _ s11 _ _ _ _ _ _ _ _ _ _ _ _ _ _ _ _ _ _ _ _ _ _ _ _ _ _ _ _ _ _ _ _ _ _ _ _ _ wr => ∃ (j : Nat), s11 = .int .i64 (j : Int) ∧ j ≤ L ∧ L - j ≤ gg ∧ Aside (∃ Bs', Mk P { I with roots := ((r + j : Nat) : Int) } w0 wr ds ws (SS (T.take j)) Bs' ∧ RootRd wr ao T n Bs'))
  case atStart => exact ⟨0, rfl, Nat.zero_le _, by omega, Bs, by rw [HS0.out]; exact h00.out, hT0.out⟩
  case round =>
    obtain ⟨j, rfl, hj, hgg, HI⟩ := hrel
    by_cases hlt : j < L
    · have hltz : (j : Int) < (L : Int) := by omega
      obtain ⟨y, hy⟩ := HTl.out j hlt
      obtain ⟨Bs', hM, hR⟩ := HI.out
      obtain ⟨zb, off, rfl, c1, c2, c3, b, m, hv, gh, H, hHm, hm2, c4, c5, c6, c7⟩ := HRound.out j y wr Bs' hy hR hM
      have H6 := hide (And.intro c6 c7)
      have hmod : ((r + j : Nat) : Int).tmod (n : Int) = (((r + j) % n : Nat) : Int) := by
        rw [Int.tmod_eq_emod_of_nonneg (by omega)]; simp
      have hnz : ¬ ((n : Int) = 0) := by omega
      have hmlt : (r + j) % n < n := Nat.mod_lt _ (by omega)
      have hadd : wrap64 (((r + j : Nat) : Int) + 1) = ((r + (j + 1) : Nat) : Int) := by rw [w64 _ (by omega)]; omega
      generalize (r + j) % n = k at *
      generalize hr2 : ((r + (j + 1) : Nat) : Int) = r2 at *
      have HR2 := hide hr2
      clear hr2
      generalize ((r + j : Nat) : Int) = r1 at *
      clear HI hM hR HRound c6 c7 hy HTl HE HS0 h00 hT0
      go_wp2_with fail
      go_quiet (fail)
      go_wp2_with (at_builtin; (refine wpList_append_sl _ rfl _ _ rfl hv H y gh rfl (H6.out.1 _) wr.heap.size rfl (cell_of_heap (heap_alloc_new _ _) 0) (by omega) ?_); intro b3 off3 cap3 w3 q1 q2 q3; obtain ⟨r1', r2', ⟨r3', r6'⟩, r4', r5'⟩ := H6.out.2 _ b3 off3 cap3 w3 q1 q2 q3; have H7 := hide r5'; clear q1 q2 q3 r5' H6)
      obtain ⟨Bs2, h8, h9⟩ := H7.out
      have H8 := hide (And.intro h8 h9)
      clear h8 h9 H7
      go_roundg (L - (j + 1))
      case measure => omega
      case rel => exact ⟨j + 1, by go_num, by omega, Nat.le_refl _, Bs2, (by rw [HR2.out, ← hHm]; exact H8.out.1), (by rw [← hHm]; exact H8.out.2)⟩
    · have hjm : j = L := by omega
      have hltz : ¬ (j : Int) < (L : Int) := by omega
      subst hjm
      obtain ⟨Bs', hM, hR⟩ := HI.out
      rw [HE.out j (Nat.le_refl _)] at hM
      have HM := hide hM
      clear hM hR HI HRound
      go_wp2_with fail
      first | refine bodyPost_end (results_none rfl _ _ _) rfl ?_ | refine bodyPost_ret (results_none rfl _ _ _) rfl ?_
      exact ⟨rfl, _, HM.out⟩
end
end Go.Proofs.YthpjlhfijkeciaaGreatDoor

/-
  The example in every statement of layer 11, without memory: it is played out.
-/
namespace Go.Proofs.YthpjlhfijkeciaaGreatDoor
open Go.RowKit
set_option linter.unusedVariables false

def H11 : List Int × List Int := heapOf [⟨0, 0, [1]⟩, ⟨2, 2, []⟩] 11
def P11 : MP := ⟨H11.1, four, 1, 2, 2⟩
def S11 : MS := rootsM 1 (MS.fresh (List.replicate 9 0) (fun _ => 0) 0 0) 0 [1, 0]
def it11 : Nat → MS
  | 0 => S11
  | j + 1 => stepM P11 (it11 j) 0

instance (C : Cfg) (o : OpS) : Decidable (CntOk C o) := by unfold CntOk; split <;> infer_instance
instance (C : Cfg) (l : List Int) (o : OpS) (N : Int) : Decidable (Fit C l o N) :=
  decidable_of_iff ((-N ≤ rd C l 0 ∧ rd C l 0 ≤ N) ∧ (-N ≤ rd C l 1 ∧ rd C l 1 ≤ N) ∧ (-N ≤ o.top ∧ o.top ≤ N) ∧ (-N ≤ o.bottom ∧ o.bottom ≤ N) ∧ CntOk C o) ⟨fun h => ⟨h.1, h.2.1, h.2.2.1, h.2.2.2.1, h.2.2.2.2⟩, fun h => ⟨h.t, h.b, h.ot, h.ob, h.cnt⟩⟩
instance (Q : QC) (o : OfS) : Decidable (QOk Q o) := by unfold QOk; split <;> infer_instance
instance (x : Int) : Decidable (In64 x) := by unfold In64; infer_instance
def decAnd {p q : Prop} (h1 : Decidable p) (h2 : Decidable q) : Decidable (p ∧ q) := inferInstance
def decImp {p q : Prop} (h1 : Decidable p) (h2 : Decidable q) : Decidable (p → q) := inferInstance
instance (P : MP) (S : MS) (k : Nat) : Decidable (MayM P S k) := by
  unfold MayM
  refine decImp inferInstance (decAnd inferInstance (decAnd inferInstance (decAnd inferInstance (decAnd inferInstance (decAnd inferInstance (decAnd inferInstance ?_))))))
  split
  · split
    · infer_instance
    · split
      · infer_instance
      · split <;> infer_instance
  · infer_instance
  · infer_instance
  · infer_instance
  · infer_instance
  · infer_instance

theorem h11_is : H11 = ([0, 4611686022722355200, 5, 0, 100003, 4611686031312289794, 100065, 100066, 4611686018427387906, 0, 0], [1, 5]) := by decide +kernel
set_option maxRecDepth 100000 in
/-- Each step may be done; the worker has ended with the 39th. -/
theorem aw11 : ∀ j, j < 39 → MayM P11 (it11 j) 0 ∧ ((it11 (j + 1)).X 0).ended = decide (j + 1 = 39) := by decide +kernel
theorem aw11_end : ((it11 39).X 0).ended = true ∧ ((it11 39).X 0).seen = 2 ∧ (it11 39).fault = 0 ∧ (it11 39).sz 1 = 4 ∧ (it11 39).sz 5 = 3 ∧ (List.range 11).map (it11 39).sz = [0, 4, 0, 0, 0, 3, 0, 0, 0, 0, 0] := by decide +kernel
end Go.Proofs.YthpjlhfijkeciaaGreatDoor

/-
  The marker without memory: numbers stay small ('Bm'), each step may be done ('Bm.may'), a step has one access or one mark at most ('step_one'). No Go is walked here.
-/
namespace Go.Proofs.YthpjlhfijkeciaaGreatDoor
open Go.RowKit
set_option linter.unusedVariables false
set_option linter.unusedSimpArgs false

def Sm (Z x : Int) : Prop := -Z ≤ x ∧ x ≤ Z
theorem Sm.up {Z x : Int} (h : Sm Z x) : Sm (Z + 1) x := by unfold Sm at *; omega
def LB (Z : Int) (l : List Int) : Prop := ∀ x, x ∈ l → Sm Z x
theorem LB.get {Z : Int} {l : List Int} (h : LB Z l) (hZ : 0 ≤ Z) (i : Nat) : Sm Z (l.getD i 0) := by
  rw [List.getD_eq_getElem?_getD]
  cases hx : l[i]? with
  | none => unfold Sm; simp; omega
  | some x => exact h x (List.mem_of_getElem? hx)
theorem LB.up {Z : Int} {l : List Int} (h : LB Z l) : LB (Z + 1) l := fun x hx => (h x hx).up
theorem LB.set {Z : Int} {l : List Int} (h : LB Z l) {v : Int} (hv : Sm Z v) (i : Nat) : LB Z (l.set i v) := fun x hx => by
  rcases List.mem_or_eq_of_mem_set hx with h1 | h1
  · exact h x h1
  · rw [h1]; exact hv
def OB (Z : Int) (o : OpS) : Prop := Sm Z o.top ∧ Sm Z o.bottom ∧ Sm Z o.item

theorem op_step {C : Cfg} {l : List Int} {o : OpS} {Z : Int} (hZ : 5000 ≤ Z) (hov : C.over ≤ 4096) (hl : LB Z l) (ho : OB Z o) (hc : CntOk C o) : LB (Z + 1) (stepOf C l o).1 ∧ OB (Z + 1) (stepOf C l o).2 := by
  have r : ∀ k, Sm Z (rd C l k) := fun k => hl.get (by omega) _
  have r0 := r 0
  have r1 := r 1
  obtain ⟨h1, h2, h3⟩ := ho
  have hu := hl.up
  unfold stepOf
  by_cases hd : o.done = true
  · rw [if_pos hd]; exact ⟨hu, h1.up, h2.up, h3.up⟩
  rw [if_neg hd]
  unfold CntOk at hc
  have sl : ∀ k, Sm (Z + 1) (rd C l k) := fun k => (r k).up
  cases hat : o.at_ <;> rw [hat] at hc <;> simp only at hc ⊢ <;> (try split) <;> refine ⟨?_, ?_, ?_, ?_⟩ <;> first | exact hu | exact h1.up | exact h2.up | exact h3.up | exact sl _ | (exact hu.set h3.up _) | (refine hu.set ?_ _; unfold Sm at *; omega) | (unfold Sm at *; simp only; omega)

theorem of_step {Q : QC} {l : List Int} {o : OfS} {Z : Int} (hZ : 5000 ≤ Z) (hl : LB Z l) : LB (Z + 1) (stepQ Q l o).1 := by
  have hu := hl.up
  have r0 : Sm Z (cnt Q l) := hl.get (by omega) _
  unfold stepQ
  split
  · cases o.at_ <;> simp only <;> (try split) <;> first | exact hu | (refine hu.set ?_ _; unfold Sm at *; omega)
  · exact hu
theorem look_ok (Q : QC) (o : OfS) {k : Nat} (h : k ≤ Q.cs.length) : QOk Q (lookQ Q o k) := by
  unfold QOk lookQ
  by_cases hk : k = Q.cs.length
  · simp [hk]
  · simp [hk]; omega
theorem qok_step {Q : QC} {l : List Int} {o : OfS} (h : QOk Q o) (hs : o.state = 0) : QOk Q (stepQ Q l o).2 := by
  unfold stepQ
  rw [if_pos hs]
  have h0 := h
  unfold QOk at h
  cases hat : o.at_ <;> rw [hat] at h <;> simp only at h ⊢
  · unfold QOk; trivial
  · split
    · unfold QOk; trivial
    · exact look_ok Q o (Nat.zero_le _)
  · unfold QOk; exact h
  · by_cases hx : o.top < rd (cOf Q o.k) l 1
    · rw [if_pos hx]; unfold QOk; trivial
    · rw [if_neg hx]; unfold QOk; exact h
  · split
    · unfold QOk; trivial
    · exact look_ok Q o (by omega)
  · unfold QOk; trivial

/-- A block that was read: its numbers may be, its references stand within the heap. -/
structure BlkOk (P : MP) (b : Blk) : Prop where
  n : In64 b.n
  t : 0 ≤ b.t ∧ b.t ≤ 65536
  s : In64 b.s
  ps : ∀ p, p ∈ P.places b → 0 ≤ p ∧ p < P.hw.length
  len : (P.places b).length ≤ 65536
theorem refs_in {cs : List Cls} {k n : Int} (h : (sizeOf cs k n).2 = 0) : refsOf cs k n + 1 ≤ (sizeOf cs k n).1 := by
  unfold sizeOf refsOf told at *
  split at h
  · simp at h
  · rename_i c hc
    split at h
    · rename_i hn
      have := clsAt_few hc hn
      simp only [if_pos hn, gSize, gRefs]
      omega
    · simp at h
theorem obj_ok {P : MP} (hl : P.hw.length ≤ 65536) {r : Int} {b : Blk} (h : P.obj r = some b) : BlkOk P b ∧ b.t = r := by
  obtain ⟨h1, h2⟩ := obj_some h
  obtain ⟨a1, a2, a3, a4, a5, a6, a7, x, a8, a9, a10, a11⟩ := readOf_some h1
  have h3 := refs_in a6
  have h4 := refsOf_range P.cl b.k b.n
  refine ⟨⟨?_, by omega, by unfold In64; omega, fun p hp => ?_, ?_⟩, a1⟩
  · rw [a11]; unfold partL In64; omega
  · unfold MP.places at hp
    obtain ⟨i, hi, rfl⟩ := List.mem_map.1 hp
    unfold rowTo at hi
    obtain ⟨j, hj, rfl⟩ := List.mem_map.1 hi
    rw [List.mem_range] at hj
    omega
  · unfold MP.places
    rw [List.length_map, rowTo_length]
    omega

/-- What a worker's next step goes by. -/
def ActOk (P : MP) (k : Nat) (Z : Int) : MAct → Prop
  | .choose => True
  | .mark b => BlkOk P b
  | .push b o => BlkOk P b ∧ OB Z o ∧ CntOk (P.dq k 0) o ∧ o.done = false
  | .take a o => a < P.n ∧ OB Z o ∧ CntOk (P.dq k a) o ∧ o.done = false
  | .open_ v => Sm Z v
  | .end_ o => QOk (P.Q k) o ∧ o.state = 0
theorem OB.up {Z : Int} {o : OpS} (h : OB Z o) : OB (Z + 1) o := ⟨h.1.up, h.2.1.up, h.2.2.up⟩
theorem ActOk.up {P : MP} {k : Nat} {Z : Int} {a : MAct} (h : ActOk P k Z a) : ActOk P k (Z + 1) a := by
  cases a with
  | choose => trivial
  | mark b => exact h
  | push b o => exact ⟨h.1, h.2.1.up, h.2.2⟩
  | take a o => exact ⟨h.1, h.2.1.up, h.2.2⟩
  | open_ v => exact Sm.up h
  | end_ o => exact h
/-- A worker whose numbers are small. -/
structure WB (P : MP) (k : Nat) (Z : Int) (M : Int) (H : Nat) (x : MW) : Prop where
  seen : 0 ≤ x.seen ∧ x.seen ≤ M
  hl : x.hands.length ≤ H
  hin : ∀ r, r ∈ x.hands → In64 r
  kl : (x.kept.length : Int) ≤ M
  kin : ∀ b, b ∈ x.kept → BlkOk P b
  pl : x.places.length ≤ 65536
  pin : ∀ p, p ∈ x.places → 0 ≤ p ∧ p < P.hw.length
  act : x.ended = false → ActOk P k Z x.act
theorem WB.up {P : MP} {k : Nat} {Z M : Int} {H : Nat} {x : MW} (h : WB P k Z M H x) : WB P k (Z + 1) (M + 1) H x :=
  ⟨by have := h.seen; omega, h.hl, h.hin, by have := h.kl; omega, h.kin, h.pl, h.pin, fun e => (h.act e).up⟩
/-- What a marker is made of may be. -/
structure BP (P : MP) : Prop where
  n1 : 1 ≤ P.n
  hl : P.hw.length ≤ 65536
  hin : ∀ x, x ∈ P.hw → In64 x
  ov : P.over ≤ 4096
/-- Behind so many steps. -/
structure Bm (P : MP) (H : Nat) (M : Int) (S : MS) : Prop where
  m0 : 0 ≤ M
  hs : 0 ≤ S.hs ∧ S.hs ≤ M
  cs : 0 ≤ S.cs ∧ S.cs ≤ M
  l : LB (M + 70000) S.l
  w : ∀ k, k < P.n → WB P k (M + 70000) M H (S.X k)

section
variable {P : MP} {H : Nat} {M : Int} {S : MS} {k : Nat}
theorem word_in (hP : BP P) (p : Int) : In64 (P.word p) := by
  unfold MP.word
  cases h : wordAt P.hw p with
  | none => unfold In64; simp
  | some x =>
    obtain ⟨i, _, _, hx⟩ := wordAt_some h
    exact hP.hin x (List.mem_of_getElem? hx)
theorem acc_le (P : MP) (r : Int) : 0 ≤ P.acc r ∧ P.acc r ≤ 1 := by unfold MP.acc; split <;> omega
theorem oneIf_le (l : List Int) : 0 ≤ oneIf l ∧ oneIf l ≤ 1 := by unfold oneIf; split <;> omega
theorem new_ob {Z : Int} (hZ : 0 ≤ Z) (a : Stp) {v : Int} (hv : Sm Z v) : OB Z (opNew a v) := by
  unfold OB opNew
  refine ⟨?_, ?_, hv⟩ <;> (unfold Sm; simp; omega)
theorem cok_new (C : Cfg) (v : Int) : CntOk C (opNew .popReadBottom v) ∧ CntOk C (opNew .stealReadTop v) ∧ CntOk C (opNew .pushReadBottom v) := ⟨trivial, trivial, trivial⟩
theorem ask_ok (hP : BP P) {Z : Int} (hZ : 0 ≤ Z) (x : MW) {a : Nat} (ha : a ≤ P.n) : ActOk P k Z (askW P x a).act ∧ (askW P x a) = { x with act := (askW P x a).act } := by
  have s0 : Sm Z 0 := by unfold Sm; omega
  unfold askW
  by_cases h1 : a = P.n
  · rw [if_pos h1]
    refine ⟨⟨trivial, rfl⟩, rfl⟩
  · rw [if_neg h1]
    by_cases h2 : a = 0
    · rw [if_pos h2]
      refine ⟨⟨by have := hP.n1; omega, new_ob hZ _ s0, (cok_new _ _).1, rfl⟩, rfl⟩
    · rw [if_neg h2]
      refine ⟨⟨by omega, new_ob hZ _ s0, (cok_new _ _).2.1, rfl⟩, rfl⟩
theorem WB.acts {Z : Int} {x y : MW} (h : WB P k Z M H x) (ha : ActOk P k Z y.act) (he : y = { x with act := y.act }) : WB P k Z M H y := by
  rw [he]
  exact ⟨h.seen, h.hl, h.hin, h.kl, h.kin, h.pl, h.pin, fun _ => ha⟩
theorem took_ok (hP : BP P) {Z : Int} (hZ : 0 ≤ Z) (x : MW) {a : Nat} (ha : a < P.n) {o : OpS} (ho : OB Z o) (hc : CntOk (P.dq k a) o) : ActOk P k Z (tookW P x a o).act ∧ tookW P x a o = { x with act := (tookW P x a o).act } := by
  unfold tookW
  by_cases h1 : o.done = true
  · rw [if_pos h1]
    by_cases h2 : (valOf o).2 = 0
    · rw [if_pos h2]
      refine ⟨?_, rfl⟩
      show Sm Z (valOf o).1
      unfold valOf at *
      rw [if_pos h1] at h2 ⊢
      by_cases h3 : o.errno = 0
      · rw [if_pos h3]; exact ho.2.2
      · rw [if_neg h3] at h2; exact absurd h2 h3
    · rw [if_neg h2]
      by_cases h3 : (valOf o).2 = 16
      · rw [if_pos h3]; exact ask_ok hP hZ x (by omega)
      · rw [if_neg h3]; exact ask_ok hP hZ x (by omega)
  · rw [if_neg h1]
    exact ⟨⟨ha, ho, hc, by simpa using h1⟩, rfl⟩
theorem dq_over (P : MP) (k a : Nat) : (P.dq k a).over = P.over := rfl

/-- One worker is another one. -/
theorem Bm.upd (h : Bm P H M S) {S' : MS} {x : MW} (hX : S'.X = updM S.X k x) (hx : WB P k (M + 1 + 70000) (M + 1) H x) (hl : LB (M + 1 + 70000) S'.l) (h1 : S.hs ≤ S'.hs ∧ S'.hs ≤ S.hs + 1) (h2 : S.cs ≤ S'.cs ∧ S'.cs ≤ S.cs + 1) : Bm P H (M + 1) S' := by
  refine ⟨by have := h.m0; omega, by have := h.hs; omega, by have := h.cs; omega, hl, fun j hj => ?_⟩
  rw [hX]
  by_cases e : j = k
  · subst e; rw [updM_at]; exact hx
  · rw [updM_ne _ _ e]
    have := (h.w j hj).up
    rw [show M + 70000 + 1 = M + 1 + 70000 by omega] at this
    exact this
theorem Bm.up (h : Bm P H M S) : Bm P H (M + 1) S := by
  refine ⟨by have := h.m0; omega, by have := h.hs; omega, by have := h.cs; omega, ?_, fun j hj => ?_⟩
  · have := h.l.up
    rw [show M + 70000 + 1 = M + 1 + 70000 by omega] at this
    exact this
  · have := (h.w j hj).up
    rw [show M + 70000 + 1 = M + 1 + 70000 by omega] at this
    exact this
theorem scan_ok {Z : Int} {x : MW} (h : WB P k Z M H x) (hM : 0 ≤ M) {b : Blk} (hb : BlkOk P b) : WB P k (Z + 1) (M + 1) H (scanW P x b) := by
  have h1 := oneIf_le (P.places b)
  have h2 := h.seen
  have h3 := h.kl
  unfold scanW
  exact ⟨by show 0 ≤ x.seen + _ ∧ x.seen + _ ≤ M + 1; omega, h.hl, h.hin, by show (x.kept.length : Int) ≤ M + 1; omega, h.kin, hb.len, hb.ps, fun _ => trivial⟩
theorem take_ok (hP : BP P) (h : Bm P H M S) (hk : k < P.n) {x : MW} (hx : WB P k (M + 70000) M H { x with act := .choose }) {a : Nat} (ha : a < P.n) {o : OpS} (ho : OB (M + 70000) o) (hc : CntOk (P.dq k a) o) : Bm P H (M + 1) (takeM P S k x a o) := by
  have hm := h.m0
  obtain ⟨s1, s2⟩ := op_step (C := P.dq k a) (Z := M + 70000) (by omega) (by rw [dq_over]; exact hP.ov) h.l ho hc
  have s3 := cnt_own (P.dq k a) S.l o hc
  rw [show M + 70000 + 1 = M + 1 + 70000 by omega] at s1 s2
  unfold takeM
  generalize (stepOf (P.dq k a) S.l o).1 = l' at *
  generalize (stepOf (P.dq k a) S.l o).2 = o' at *
  obtain ⟨t1, t2⟩ := took_ok (k := k) hP (Z := M + 1 + 70000) (by omega) x ha s2 s3
  refine h.upd (x := tookW P x a o') rfl ?_ s1 ⟨by simp, by simp; omega⟩ ⟨by simp; omega, by simp⟩
  have u := hx.up
  rw [show M + 70000 + 1 = M + 1 + 70000 by omega] at u
  generalize tookW P x a o' = y at *
  rw [t2]
  exact ⟨u.seen, u.hl, u.hin, u.kl, u.kin, u.pl, u.pin, fun _ => t1⟩
theorem WB.chosen {Z : Int} {x : MW} (h : WB P k Z M H x) : WB P k Z M H { x with act := .choose } := ⟨h.seen, h.hl, h.hin, h.kl, h.kin, h.pl, h.pin, fun _ => trivial⟩
theorem choose_ok (hP : BP P) (hH : 1 ≤ H) (h : Bm P H M S) (hk : k < P.n) {x : MW} (hx : WB P k (M + 70000) M H x) : Bm P H (M + 1) (chooseM P S k x) := by
  have hm := h.m0
  have u := hx.up
  rw [show M + 70000 + 1 = M + 1 + 70000 by omega] at u
  have ul := h.l.up
  rw [show M + 70000 + 1 = M + 1 + 70000 by omega] at ul
  unfold chooseM
  cases hh : x.hands with
  | cons r hs =>
    have hl := hx.hl
    rw [hh] at hl
    have hin := hx.hin
    rw [hh] at hin
    have tl : ∀ y, y ∈ hs → In64 y := fun y hy => hin y (List.mem_cons_of_mem _ hy)
    have len : hs.length ≤ H := by simp at hl; omega
    have a := acc_le P r
    simp only
    by_cases h0 : r = 0
    · rw [if_pos h0]
      exact h.upd rfl ⟨u.seen, len, tl, u.kl, u.kin, u.pl, u.pin, u.act⟩ ul ⟨by simp, by simp; omega⟩ ⟨by simp, by simp; omega⟩
    · rw [if_neg h0]
      cases ho : P.obj r with
      | none => exact h.upd rfl ⟨u.seen, len, tl, u.kl, u.kin, u.pl, u.pin, u.act⟩ ul ⟨by simp only; omega, by simp only; omega⟩ ⟨by simp, by simp; omega⟩
      | some b => exact h.upd rfl ⟨u.seen, len, tl, u.kl, u.kin, u.pl, u.pin, fun _ => (obj_ok hP.hl ho).1⟩ ul ⟨by simp only; omega, by simp only; omega⟩ ⟨by simp, by simp; omega⟩
  | nil =>
    simp only
    cases hp : x.places with
    | cons p ps =>
      have pin := hx.pin
      have pl := hx.pl
      rw [hp] at pin pl
      have h1 := oneIf_le ps
      have h2 := hx.seen
      refine h.upd rfl ⟨?_, ?_, ?_, u.kl, u.kin, ?_, fun q hq => pin q (List.mem_cons_of_mem _ hq), u.act⟩ ul ⟨by simp only; omega, by simp⟩ ⟨by simp, by simp; omega⟩
      · simp only; omega
      · simpa using hH
      · intro r hr
        simp at hr
        rw [hr]
        exact word_in hP p
      · simp at pl ⊢; omega
    | nil =>
      simp only
      cases hk2 : x.kept.getLast? with
      | some b =>
        have hb := hx.kin b (List.mem_of_getLast? hk2)
        have hd : WB P k (M + 70000) M H { x with kept := x.kept.dropLast } := ⟨hx.seen, hx.hl, hx.hin, by have := hx.kl; simp; omega, fun c hc => hx.kin c ((List.dropLast_sublist _).subset hc), hx.pl, hx.pin, hx.act⟩
        have hsc := scan_ok hd hm hb
        rw [show M + 70000 + 1 = M + 1 + 70000 by omega] at hsc
        simp only [hh, hp] at hsc
        exact h.upd rfl hsc ul ⟨by simp, by simp; omega⟩ ⟨by simp, by simp; omega⟩
      | none =>
        have s0 : Sm (M + 70000) 0 := by unfold Sm; omega
        exact take_ok hP h hk hx.chosen (by have := hP.n1; omega) (new_ob (by omega) _ s0) (cok_new _ _).1
theorem Bm.step (hP : BP P) (hH : 1 ≤ H) (h : Bm P H M S) (hk : k < P.n) : Bm P H (M + 1) (stepM P S k) := by
  have hm := h.m0
  have hx := h.w k hk
  have u := hx.up
  rw [show M + 70000 + 1 = M + 1 + 70000 by omega] at u
  have ul := h.l.up
  rw [show M + 70000 + 1 = M + 1 + 70000 by omega] at ul
  unfold stepM
  by_cases he : (S.X k).ended = true
  · rw [if_pos he]; exact h.up
  rw [if_neg he]
  have hact := hx.act (by simpa using he)
  cases ha : (S.X k).act with
  | choose => exact choose_ok hP hH h hk hx
  | mark b =>
    rw [ha] at hact
    have hb : BlkOk P b := hact
    simp only
    generalize Bt.markC P.hw.length S.sz b.t b.s = mc at *
    by_cases h1 : mc.1 = true
    · simp only [h1, if_true]
      refine h.upd rfl ⟨u.seen, u.hl, u.hin, u.kl, u.kin, u.pl, u.pin, fun _ => ⟨hb, ?_, (cok_new _ _).2.2, rfl⟩⟩ ul ⟨by simp, by simp; omega⟩ ⟨by simp, by simp; omega⟩
      exact new_ob (by omega) _ (by have := hb.t; unfold Sm; omega)
    · simp only [h1]
      exact h.upd rfl ⟨u.seen, u.hl, u.hin, u.kl, u.kin, u.pl, u.pin, fun _ => trivial⟩ ul ⟨by simp, by simp; omega⟩ ⟨by simp, by simp; omega⟩
  | push b o =>
    rw [ha] at hact
    obtain ⟨hb, ho, hc, hd⟩ := hact
    simp only
    obtain ⟨s1, s2⟩ := op_step (C := P.dq k 0) (Z := M + 70000) (by omega) (by rw [dq_over]; exact hP.ov) h.l ho hc
    have s3 := cnt_own (P.dq k 0) S.l o hc
    rw [show M + 70000 + 1 = M + 1 + 70000 by omega] at s1 s2
    generalize (stepOf (P.dq k 0) S.l o).1 = l' at *
    generalize (stepOf (P.dq k 0) S.l o).2 = o' at *
    refine h.upd rfl ?_ s1 ⟨by simp, by simp; omega⟩ ⟨by simp only; omega, by simp⟩
    unfold pushedW
    by_cases h1 : o'.done = true
    · rw [if_pos h1]
      by_cases h2 : (valOf o').2 = 0
      · rw [if_pos h2]
        exact ⟨u.seen, u.hl, u.hin, u.kl, u.kin, u.pl, u.pin, fun _ => trivial⟩
      · rw [if_neg h2]
        refine ⟨u.seen, u.hl, u.hin, ?_, ?_, u.pl, u.pin, fun _ => trivial⟩
        · have := hx.kl; simp; omega
        · intro c hc2
          rcases List.mem_append.1 hc2 with h3 | h3
          · exact hx.kin c h3
          · simp at h3; rw [h3]; exact hb
    · rw [if_neg h1]
      exact ⟨u.seen, u.hl, u.hin, u.kl, u.kin, u.pl, u.pin, fun _ => ⟨hb, s2, s3, by simpa using h1⟩⟩
  | take a o =>
    rw [ha] at hact
    obtain ⟨h1, h2, h3, h4⟩ := hact
    exact take_ok hP h hk hx.chosen h1 h2 h3
  | open_ v =>
    rw [ha] at hact
    simp only
    have a := acc_le P v
    cases ho : P.obj v with
    | none => exact h.upd rfl ⟨u.seen, u.hl, u.hin, u.kl, u.kin, u.pl, u.pin, fun _ => trivial⟩ ul ⟨by simp only; omega, by simp only; omega⟩ ⟨by simp, by simp; omega⟩
    | some b =>
      have hsc := scan_ok hx hm (obj_ok hP.hl ho).1
      rw [show M + 70000 + 1 = M + 1 + 70000 by omega] at hsc
      exact h.upd rfl hsc ul ⟨by simp only; omega, by simp only; omega⟩ ⟨by simp, by simp; omega⟩
  | end_ o =>
    rw [ha] at hact
    obtain ⟨h1, h2⟩ := hact
    simp only
    have s1 := of_step (Q := P.Q k) (o := o) (Z := M + 70000) (by omega) h.l
    rw [show M + 70000 + 1 = M + 1 + 70000 by omega] at s1
    have s2 := qok_step (l := S.l) h1 h2
    have s3 : (stepQ (P.Q k) S.l o).2.state = 0 ∨ (stepQ (P.Q k) S.l o).2.state = 1 ∨ (stepQ (P.Q k) S.l o).2.state = 2 := by
      unfold stepQ
      rw [if_pos h2]
      cases o.at_ <;> simp only <;> (try split) <;> first | (left; exact h2) | (right; left; rfl) | (right; right; rfl) | omega | simp
    generalize (stepQ (P.Q k) S.l o).1 = l' at *
    generalize (stepQ (P.Q k) S.l o).2 = o' at *
    refine h.upd rfl ?_ s1 ⟨by simp, by simp; omega⟩ ⟨by simp only; omega, by simp⟩
    unfold endedW
    by_cases e2 : o'.state = 2
    · rw [if_pos e2]
      exact ⟨u.seen, u.hl, u.hin, u.kl, u.kin, u.pl, u.pin, fun e => by simp at e⟩
    · rw [if_neg e2]
      by_cases e1 : o'.state = 1
      · rw [if_pos e1]
        exact ⟨u.seen, u.hl, u.hin, u.kl, u.kin, u.pl, u.pin, fun _ => trivial⟩
      · rw [if_neg e1]
        exact ⟨u.seen, u.hl, u.hin, u.kl, u.kin, u.pl, u.pin, fun _ => ⟨s2, by omega⟩⟩
theorem fit_of {C : Cfg} {l : List Int} {o : OpS} {Z : Int} (h0 : 0 ≤ Z) (hl : LB Z l) (ho : OB Z o) (hc : CntOk C o) (hZ : Z ≤ 1000000) : Fit C l o 1000000 := by
  have r0 : Sm Z (rd C l 0) := hl.get h0 _
  have r1 : Sm Z (rd C l 1) := hl.get h0 _
  have o1 := ho.1
  have o2 := ho.2.1
  unfold Sm at *
  exact ⟨by omega, by omega, by omega, by omega, hc⟩
/-- Each step may be done. -/
theorem Bm.may (hP : BP P) (h : Bm P H M S) (hM : M ≤ 900000) (hH : H ≤ 1000000) (hk : k < P.n) : MayM P S k := by
  intro he
  have hm := h.m0
  have hx := h.w k hk
  have h1 := hx.act he
  have h2 := h.hs
  have h3 := h.cs
  have h4 := hx.seen
  have h5 := hx.hl
  have h6 := hx.kl
  have h7 := hx.pl
  refine ⟨by omega, by omega, by omega, by omega, by omega, by omega, ?_⟩
  cases ha : (S.X k).act with
  | choose =>
    simp only
    cases hh : (S.X k).hands with
    | cons r hs => exact hx.hin r (by rw [hh]; simp)
    | nil =>
      simp only
      cases hp : (S.X k).places with
      | cons p ps => exact hx.pin p (by rw [hp]; simp)
      | nil =>
        simp only
        cases hk2 : (S.X k).kept.getLast? with
        | some b =>
          have hb := hx.kin b (List.mem_of_getLast? hk2)
          exact ⟨hb.n, hb.t⟩
        | none => exact fit_of (Z := M + 70000) (by omega) h.l (new_ob (by omega) _ (by unfold Sm; omega)) (cok_new _ _).1 (by omega)
  | mark b => rw [ha] at h1; exact BlkOk.s h1
  | push b o => rw [ha] at h1; exact ⟨fit_of (Z := M + 70000) (by omega) h.l h1.2.1 h1.2.2.1 (by omega), h1.2.2.2⟩
  | take a o => rw [ha] at h1; exact ⟨h1.1, fit_of (Z := M + 70000) (by omega) h.l h1.2.1 h1.2.2.1 (by omega), h1.2.2.2⟩
  | open_ v =>
    rw [ha] at h1
    have h8 : Sm (M + 70000) v := h1
    unfold Sm at h8
    show In64 v
    unfold In64
    omega
  | end_ o =>
    rw [ha] at h1
    have c0 : Sm (M + 70000) (cnt (P.Q k) S.l) := h.l.get (by omega) _
    unfold Sm at c0
    exact ⟨by omega, h1.1, h1.2⟩
end

/-- Marks from one place to another. -/
def marksTo (sz : Nat → Nat) (m : Nat) : Nat := Bt.cnt (Bt.begs sz) m
theorem marks_upd {sz : Nat → Nat} {a z : Nat} (h0 : sz a = 0) (hz : 0 < z) : ∀ m, a < m → marksTo (Bt.upd sz a z) m = marksTo sz m + 1 := by
  intro m
  unfold marksTo
  induction m with
  | zero => intro h; omega
  | succ m ih =>
    intro h
    rw [Bt.cnt, Bt.cnt]
    by_cases e : a = m
    · subst e
      have e1 : Bt.cnt (Bt.begs (Bt.upd sz a z)) a = Bt.cnt (Bt.begs sz) a := Bt.cnt_congr fun j hj => by
        unfold Bt.begs Bt.upd
        rw [if_neg (by omega)]
      have e2 : Bt.begs (Bt.upd sz a z) a = true := by unfold Bt.begs Bt.upd; rw [if_pos rfl]; exact decide_eq_true hz
      have e3 : Bt.begs sz a = false := by unfold Bt.begs; rw [h0]; rfl
      rw [e1, e2, e3]
      simp
    · have e2 : Bt.begs (Bt.upd sz a z) m = Bt.begs sz m := by unfold Bt.begs Bt.upd; rw [if_neg (by omega)]
      rw [ih (by omega), e2]
      omega
/-- A step has one access or one mark at most; one who has ended has none. -/
theorem step_one (P : MP) (S : MS) (k : Nat) : ∃ a b : Int, ∃ c : Nat, (stepM P S k).hs = S.hs + a ∧ (stepM P S k).cs = S.cs + b ∧ marksTo (stepM P S k).sz P.hw.length = marksTo S.sz P.hw.length + c ∧ 0 ≤ a ∧ 0 ≤ b ∧ a + b + c ≤ 1 := by
  unfold stepM
  by_cases he : (S.X k).ended = true
  · rw [if_pos he]; exact ⟨0, 0, 0, by omega, by omega, by omega, by omega, by omega, by omega⟩
  rw [if_neg he]
  cases ha : (S.X k).act with
  | choose =>
    simp only
    unfold chooseM
    split
    · rename_i r hs _
      have a := acc_le P r
      split
      · exact ⟨0, 0, 0, by simp, by simp, by simp, by omega, by omega, by omega⟩
      · split
        · exact ⟨P.acc r, 0, 0, by simp, by simp, by simp, by omega, by omega, by omega⟩
        · exact ⟨P.acc r, 0, 0, by simp, by simp, by simp, by omega, by omega, by omega⟩
    · split
      · exact ⟨1, 0, 0, by simp, by simp, by simp, by omega, by omega, by omega⟩
      · split
        · exact ⟨0, 0, 0, by simp, by simp, by simp, by omega, by omega, by omega⟩
        · unfold takeM; exact ⟨0, 1, 0, by simp, by simp, by simp, by omega, by omega, by omega⟩
  | mark b =>
    simp only
    unfold Bt.markC
    by_cases h1 : ¬ (0 ≤ b.t ∧ b.t < P.hw.length)
    · simp only [if_pos h1]; exact ⟨0, 0, 0, by simp, by simp, by simp, by omega, by omega, by omega⟩
    · simp only [if_neg h1]
      by_cases h2 : b.s < 1 ∨ P.hw.length - b.t < b.s
      · simp only [if_pos h2]; exact ⟨0, 0, 0, by simp, by simp, by simp, by omega, by omega, by omega⟩
      · simp only [if_neg h2]
        by_cases h3 : 0 < S.sz b.t.toNat
        · simp only [if_pos h3]; exact ⟨0, 0, 0, by simp, by simp, by simp, by omega, by omega, by omega⟩
        · simp only [if_neg h3]
          by_cases h4 : Bt.freeC S.sz b.t.toNat b.s.toNat = true
          · simp only [if_pos h4]
            exact ⟨0, 0, 1, by simp, by simp, marks_upd (by omega) (by omega) _ (by omega), by omega, by omega, by omega⟩
          · simp only [if_neg h4]; exact ⟨0, 0, 0, by simp, by simp, by simp, by omega, by omega, by omega⟩
  | push b o => exact ⟨0, 1, 0, by simp, by simp, by simp, by omega, by omega, by omega⟩
  | take a o => unfold takeM; exact ⟨0, 1, 0, by simp, by simp, by simp, by omega, by omega, by omega⟩
  | open_ v =>
    have a := acc_le P v
    simp only
    split
    · exact ⟨P.acc v, 0, 0, by simp, by simp, by simp, by omega, by omega, by omega⟩
    · exact ⟨P.acc v, 0, 0, by simp, by simp, by simp, by omega, by omega, by omega⟩
  | end_ o => exact ⟨0, 1, 0, by simp, by simp, by simp, by omega, by omega, by omega⟩
theorem step_ended (P : MP) (S : MS) (k : Nat) (h : (S.X k).ended = true) : stepM P S k = S := by unfold stepM; rw [if_pos h]
/-- A new marker, with roots. -/
theorem fresh_bm (P : MP) (l : List Int) (sz : Nat → Nat) (hl : ∀ x, x ∈ l → x = 0) : Bm P 0 0 (MS.fresh l sz 0 0) := by
  refine ⟨by omega, ⟨by simp [MS.fresh], by simp [MS.fresh]⟩, ⟨by simp [MS.fresh], by simp [MS.fresh]⟩, fun x hx => ?_, fun k hk => ?_⟩
  · rw [hl x hx]; unfold Sm; omega
  · unfold MS.fresh
    exact ⟨by simp, by simp, by simp, by simp, by simp, by simp, by simp, fun _ => trivial⟩
theorem root_bm {P : MP} {H : Nat} {M : Int} {S : MS} (h : Bm P H M S) (r : Nat) (y : Int) (hy : In64 y) (hn : 1 ≤ P.n) : Bm P (H + 1) M (rootM P.n S r y) := by
  refine ⟨h.m0, h.hs, h.cs, h.l, fun k hk => ?_⟩
  have up : ∀ j, j < P.n → WB P j (M + 70000) M (H + 1) (S.X j) := fun j hj => by
    have w := h.w j hj
    exact ⟨w.seen, Nat.le_succ_of_le w.hl, w.hin, w.kl, w.kin, w.pl, w.pin, w.act⟩
  unfold rootM
  simp only
  by_cases e : k = r % P.n
  · rw [e, updM_at]
    have hr : r % P.n < P.n := Nat.mod_lt _ (by omega)
    have w := h.w (r % P.n) hr
    refine ⟨w.seen, by have := w.hl; simp; omega, fun z hz => ?_, w.kl, w.kin, w.pl, w.pin, w.act⟩
    rcases List.mem_append.1 hz with h1 | h1
    · exact w.hin z h1
    · simp at h1; rw [h1]; exact hy
  · rw [updM_ne _ _ e]
    exact up k hk
theorem roots_bm {P : MP} (hn : 1 ≤ P.n) : ∀ (T : List Int) {H : Nat} {M : Int} {S : MS} (r : Nat), Bm P H M S → (∀ y, y ∈ T → In64 y) → Bm P (H + T.length) M (rootsM P.n S r T)
  | [], H, M, S, r, h, _ => h
  | y :: T, H, M, S, r, h, hT => by
    have h1 := root_bm h r y (hT y (by simp)) hn
    have h2 := roots_bm hn T (r + 1) h1 (fun z hz => hT z (by simp [hz]))
    rw [List.length_cons, show H + (T.length + 1) = H + 1 + T.length by omega]
    exact h2
end Go.Proofs.YthpjlhfijkeciaaGreatDoor

/-
  Texts of the proof, several in one: MarkRoot, MarkAwakeP.
-/
import Derived.Test.YthpjlhfijkeciaaGreatDoorPack28
import Derived.Test.YthpjlhfijkeciaaGreatDoorPack24
import Derived.BigQuiet
import Derived.Deep.QuietTactic
import Derived.Test.YthpjlhfijkeciaaGreatDoorPack27
import Derived.Test.YthpjlhfijkeciaaGreatDoorPack13
/-
  Root of package mark: roots are laid in the workers' hands, by turns.
-/
namespace Go.Proofs.YthpjlhfijkeciaaGreatDoor
open Go.RowKit
set_option linter.unusedVariables false

/-- A root, the r-th of all. -/
def rootM (n : Nat) (S : MS) (r : Nat) (y : Int) : MS := { S with X := updM S.X (r % n) { S.X (r % n) with hands := (S.X (r % n)).hands ++ [y] } }
def rootsM (n : Nat) (S : MS) (r : Nat) : List Int → MS
  | [] => S
  | y :: ys => rootsM n (rootM n S r y) (r + 1) ys
theorem rootsM_snoc (n : Nat) (y : Int) : ∀ (T : List Int) (S : MS) (r : Nat), rootsM n S r (T ++ [y]) = rootM n (rootsM n S r T) (r + T.length) y
  | [], S, r => rfl
  | x :: T, S, r => by
    show rootsM n (rootM n S r x) (r + 1) (T ++ [y]) = _
    rw [rootsM_snoc n y T]
    show _ = rootM n (rootsM n (rootM n S r x) (r + 1) T) (r + (T.length + 1)) y
    rw [show r + 1 + T.length = r + (T.length + 1) by omega]
theorem rootM_hands (n : Nat) (S : MS) (r : Nat) (y : Int) (k : Nat) : ((rootM n S r y).X k).hands.length ≤ (S.X k).hands.length + 1 := by
  unfold rootM updM
  simp only
  split
  · rename_i h; subst h; simp
  · omega
theorem rootsM_hands (n : Nat) (k : Nat) : ∀ (T : List Int) (S : MS) (r : Nat), ((rootsM n S r T).X k).hands.length ≤ (S.X k).hands.length + T.length
  | [], S, r => by simp [rootsM]
  | x :: T, S, r => by
    have h1 := rootsM_hands n k T (rootM n S r x) (r + 1)
    have h2 := rootM_hands n S r x k
    simp only [rootsM, List.length_cons]
    omega

section
variable {P : MP} {I : Ids} {w0 w : World} {ds ws : List Nat} {S : MS} {Bs : Nat → List Nat}
/-- A reference is put behind those in a worker's hands. -/
theorem hand_out {k b : Nat} {ds : List Nat} {B : List Nat} {x : MW} {gd cd : Nat} {hv kv pv : Value} {gh gp O : List Nat} {nx : MStp} {bl : Blk} {asked : Int} {po : Option Addr} {item : Int} {pf : Option Addr} (C1 : Cx P I k ds w S b B) (W1 : Wm w b I.M I.a ds x B gd cd hv kv pv gh gp O nx bl asked po item pf) (ha : x.act = .choose) (y : Int) {w3 : World} {b3 off3 cap3 : Nat}
    (q1 : Sl 2 w3 (.slice (some ⟨b3, off3, none⟩) (x.hands.length + 1) cap3) (x.hands ++ [y]) [b3]) (q2 : b3 ∈ gh ∨ (w.alloc (.cells #[.int .i64 y] 2)).heap.size ≤ b3) (q3 : Turned gh (w.alloc (.cells #[.int .i64 y] 2)) w3) :
    WmR w3 b (mwCells nx b I.M gd ds.length cd hv kv bl pv asked po item pf x.seen x.ended) ∧ MkR w3 I.M (I.cells S.fault) ∧ Out P I k ds w b B S { x with hands := x.hands ++ [y] } (w3.setCell ⟨b, 3, none⟩ (.slice (some ⟨b3, off3, none⟩) (x.hands.length + 1) cap3)) := by
  have tA : Turned [] w (w.alloc (.cells #[.int .i64 y] 2)) := (Turned.refl _ _).alloc _
  have C2 := C1.keep0 tA
  have W2 := W1.keep0 tA
  have C3 := C2.keepH W2 q3
  obtain ⟨p1, p2, p3, p4, p5, p6⟩ := W2.partsH q3
  have hgB : ∀ z, z ∈ gh → z ∈ B := fun z hz => by rw [W1.own]; simp [hz]
  have T3 : Turned (I.all b B) w w3 := (tA.mono (by simp)).trans (q3.mono (Ids.inAll (fun z hz => by simp [hgB z hz])))
  have t4 : Turned [b] w3 (w3.setCell ⟨b, 3, none⟩ (.slice (some ⟨b3, off3, none⟩) (x.hands.length + 1) cap3)) := (Turned.refl _ _).setCell (by simp) _
  have raw4 := p3.set 3 (.slice (some ⟨b3, off3, none⟩) (x.hands.length + 1) cap3)
  have hB : ∀ z, z ∈ [b3] ++ (kv.ownBlock.toList ++ (gp ++ O)) → z ∈ B ∨ w.heap.size ≤ z := fun z hz => by
    have ho := W1.own
    rw [ho]
    simp only [List.mem_append, List.mem_singleton] at hz ⊢
    rcases hz with rfl | hz
    · rcases q2 with g | g
      · exact .inl (.inl g)
      · right
        simp at g
        omega
    · exact .inl (.inr hz)
  have hBo : ∀ z, z ∈ B → z ≠ b := fun z hz e => by
    obtain ⟨c2, e2, fr2, g1, g2⟩ := (show WmX _ _ _ _ _ _ _ from ⟨_, _, _, _, _, _, _, _, _, _, _, _, _, _, W1⟩ : WmX w b I.M I.a ds x B).types z hz
    refine ne_of_type g1 W1.raw ?_ e
    rcases g2 with rfl | rfl | rfl | rfl | rfl <;> decide
  have hw := (Off.one p3 (e := 120) (by decide))
  obtain ⟨c8, fr8, hr8⟩ := p1
  have hgd := hw.not hr8
  refine ⟨p3, C3.mkr, _, (C3.keepb p3 t4).own' (B' := [b3] ++ (kv.ownBlock.toList ++ (gp ++ O))) (fun z hz => ?_), ⟨gd, cd, _, kv, pv, [b3], gp, O, nx, bl, asked, po, item, pf, rfl, raw4, ⟨c8, fr8, t4.at hr8 hgd⟩, fun j d hj => by rw [t4.cell (p := ⟨gd, j, none⟩) (lt_of_heap hr8) hgd]; exact p2 j d hj, ?_, p4.turned t4 (fun z hz => ?_), p5.turned t4 (fun z hz => ?_), ?_⟩, fun z hz => hB z hz, T3.trans (t4.mono (Ids.inAll (by simp)))⟩
  · rcases hB z hz with g | g
    · exact .inl g
    · have l1 := C1.hm.ltq
      have l2 := C1.sh.mem.ltq
      exact .inr ⟨by omega, by omega, by omega⟩
  · refine Sl.turned (T := x.hands ++ [y]) ?_ t4 (fun z hz => ?_)
    · exact q1
    · obtain ⟨c9, fr9, g9⟩ := q1.types z hz
      exact (Off.one p3 (by decide)).not g9
  · obtain ⟨c9, fr9, g9⟩ := p4.types z hz
    exact (Off.one p3 (by decide)).not g9
  · obtain ⟨c9, fr9, g9⟩ := p5.types z hz
    exact (Off.one p3 (by decide)).not g9
  · show ActB _ _ _ _ _ _ _ _ _ _ x.act
    rw [ha] at p6 ⊢
    exact p6
/-- What Root goes by at its next ref. -/
theorem Mk.hand (h : Mk P I w0 w ds ws S Bs) (k : Nat) (hk : k < P.n) (ha : (S.X k).act = .choose) (y : Int) :
    ∃ (b : Nat) (hv : Value) (gh : List Nat), w.cell? ⟨I.gw, k, none⟩ = some (.pointer (some ⟨b, 0, none⟩)) ∧ w.cell? ⟨b, 3, none⟩ = some hv ∧ Sl 2 (w.alloc (.cells #[.int .i64 y] 2)) hv (S.X k).hands gh ∧
      ∀ (b3 off3 cap3 : Nat) (w3 : World), Sl 2 w3 (.slice (some ⟨b3, off3, none⟩) ((S.X k).hands.length + 1) cap3) ((S.X k).hands ++ [y]) [b3] → (b3 ∈ gh ∨ (w.alloc (.cells #[.int .i64 y] 2)).heap.size ≤ b3) → Turned gh (w.alloc (.cells #[.int .i64 y] 2)) w3 →
        w3.cell? ⟨b, 3, none⟩ = some hv ∧ w3.frozen? ⟨b, 3, none⟩ = false ∧ (w3.cell? ⟨I.M, 4, none⟩ = some (.int .i64 I.roots) ∧ b ≠ I.M) ∧ w3.frozen? ⟨I.M, 4, none⟩ = false ∧
        ∀ r' : Int, ∃ Bs', Mk P { I with roots := r' } w0 ((w3.setCell ⟨b, 3, none⟩ (.slice (some ⟨b3, off3, none⟩) ((S.X k).hands.length + 1) cap3)).setCell ⟨I.M, 4, none⟩ (.int .i64 r')) ds ws { S with X := updM S.X k { S.X k with hands := (S.X k).hands ++ [y] } } Bs' ∧ (∀ i z, z ∈ Bs' i → z ∈ Bs i ∨ w.heap.size ≤ z) ∧ ∀ z c fr, w.heap[z]? = some (.cells c 2 fr) → z ∉ Bs k → ((w3.setCell ⟨b, 3, none⟩ (.slice (some ⟨b3, off3, none⟩) ((S.X k).hands.length + 1) cap3)).setCell ⟨I.M, 4, none⟩ (.int .i64 r')).heap[z]? = some (.cells c 2 fr) := by
  have hn := h.n
  obtain ⟨b, hb⟩ : ∃ b, ws[k]? = some b := ⟨ws[k]'(by omega), by simp⟩
  obtain ⟨gd, cd, hv, kv, pv, gh, gp, O, nx, bl, asked, po, item, pf, hW⟩ := h.wk k b hb
  have C := h.cx hb
  refine ⟨b, hv, gh, h.rows k b hb, hW.raw.f 3, hW.hands.turned ((Turned.refl [] w).alloc _) (by simp), fun b3 off3 cap3 w3 q1 q2 q3 => ?_⟩
  obtain ⟨r1, r2, hO⟩ := hand_out C hW ha y q1 q2 q3
  obtain ⟨Bs', hM, hB⟩ := h.updB hb (S' := { S with X := updM S.X k { S.X k with hands := (S.X k).hands ++ [y] } }) (by
    obtain ⟨B', C', W', hB', t'⟩ := hO
    exact ⟨B', C'.same rfl rfl rfl rfl rfl, W', hB', t'⟩) rfl
  refine ⟨r1.f 3, r1.fz 3, ⟨r2.f 4, ne_of_type hW.raw h.mkr (by decide)⟩, r2.fz 4, fun r' => ⟨Bs', hM.rooted r', hB, fun z c fr hz h1 => ?_⟩⟩
  have tA : Turned [] w (w.alloc (.cells #[.int .i64 y] 2)) := (Turned.refl _ _).alloc _
  have t1 : Turned (b :: I.M :: gh) w w3 := (tA.mono (by simp)).trans (q3.mono (fun z hz => by simp [hz]))
  have n1 : z ∉ gh := fun hm => h1 (by rw [hW.own]; simp [hm])
  have n2 : z ≠ b := ne_of_type hz hW.raw (by decide)
  have n3 : z ≠ I.M := ne_of_type hz h.mkr (by decide)
  exact ((t1.setCell (p := ⟨b, 3, none⟩) (by simp) _).setCell (p := ⟨I.M, 4, none⟩) (by simp) _).at hz (by simp [n1, n2, n3])

/-- The refs that Root is handed. -/
def RootRd (w : World) (ao : Option Addr) (T : List Int) (n : Nat) (Bs : Nat → List Nat) : Prop :=
  ∀ (i : Nat) x, T[i]? = some x → ∃ b off c fr, ao = some ⟨b, off, none⟩ ∧ w.heap[b]? = some (.cells c 2 fr) ∧ c[off + i]? = some (.int .i64 x) ∧ ∀ j, j < n → b ∉ Bs j

set_option maxRecDepth 100000 in
set_option maxHeartbeats 4000000 in
theorem mroot_any (r : Nat) (T : List Int) (ao : Option Addr) (cap : Nat) (h : Mk P { I with roots := (r : Int) } w0 w ds ws S Bs) (hb : r + T.length ≤ 1000000) (ha : ∀ k, k < P.n → (S.X k).act = .choose) (hh : ∀ k, k < P.n → (S.X k).hands.length ≤ 1000000) (hT : RootRd w ao T P.n Bs) :
    Calls Tryz.prog 14 #[.pointer (some ⟨I.M, 0, none⟩), .slice ao T.length cap] w fun e w' => e = .returned (.tuple #[]) ∧ ∃ Bs', Mk P { I with roots := ((r + T.length : Nat) : Int) } w0 w' ds ws (rootsM P.n S r T) Bs' := by
  have HN := hide (none_false P { I with roots := (r : Int) } w0 w ds ws S Bs h 0)
  have hn := h.n
  have HRound : Hid (∀ (j : Nat) (y : Int) (wr : World) (Bs' : Nat → List Nat), T[j]? = some y → RootRd wr ao T P.n Bs' → Mk P { I with roots := ((r + j : Nat) : Int) } w0 wr ds ws (rootsM P.n S r (T.take j)) Bs' → ∃ zb off, ao = some ⟨zb, off, none⟩ ∧ wr.cell? ⟨zb, off + j, none⟩ = some (.int .i64 y) ∧ wr.cell? ⟨I.M, 3, none⟩ = some (.slice (some ⟨I.gw, 0, none⟩) P.n I.cw) ∧ wr.cell? ⟨I.M, 4, none⟩ = some (.int .i64 ((r + j : Nat) : Int)) ∧
      ∃ (b m : Nat) (hv : Value) (gh : List Nat) (H : List Int), H.length = m ∧ m ≤ 2000000 ∧ wr.cell? ⟨I.gw, (r + j) % P.n, none⟩ = some (.pointer (some ⟨b, 0, none⟩)) ∧ wr.cell? ⟨b, 3, none⟩ = some hv ∧ (∀ d, Sl 2 ((wr.drewN d).alloc (.cells #[.int .i64 y] 2)) hv H gh) ∧
      ∀ (d b3 off3 cap3 : Nat) (w3 : World), Sl 2 w3 (.slice (some ⟨b3, off3, none⟩) (H.length + 1) cap3) (H ++ [y]) [b3] → (b3 ∈ gh ∨ ((wr.drewN d).alloc (.cells #[.int .i64 y] 2)).heap.size ≤ b3) → Turned gh ((wr.drewN d).alloc (.cells #[.int .i64 y] 2)) w3 →
        w3.cell? ⟨b, 3, none⟩ = some hv ∧ w3.frozen? ⟨b, 3, none⟩ = false ∧ (w3.cell? ⟨I.M, 4, none⟩ = some (.int .i64 ((r + j : Nat) : Int)) ∧ b ≠ I.M) ∧ w3.frozen? ⟨I.M, 4, none⟩ = false ∧
        ∃ Bs2, Mk P { I with roots := ((r + (j + 1) : Nat) : Int) } w0 ((w3.setCell ⟨b, 3, none⟩ (.slice (some ⟨b3, off3, none⟩) (H.length + 1) cap3)).setCell ⟨I.M, 4, none⟩ (.int .i64 ((r + (j + 1) : Nat) : Int))) ds ws (rootsM P.n S r (T.take (j + 1))) Bs2 ∧ RootRd ((w3.setCell ⟨b, 3, none⟩ (.slice (some ⟨b3, off3, none⟩) (H.length + 1) cap3)).setCell ⟨I.M, 4, none⟩ (.int .i64 ((r + (j + 1) : Nat) : Int))) ao T P.n Bs2) := by
    intro j y wr Bs' hy hR hM
    have hk : (r + j) % P.n < P.n := Nat.mod_lt _ (by omega)
    have hjl := (List.getElem?_eq_some_iff.1 hy).1
    obtain ⟨zb, off, c, fr, e1, e2, e3, e4⟩ := hR j y hy
    have hact : ∀ (T : List Int) (S : MS) (r : Nat) k, (S.X k).act = .choose → ((rootsM P.n S r T).X k).act = .choose := by
      intro T
      induction T with
      | nil => intro S r k h; exact h
      | cons x T ih =>
        intro S r k h
        refine ih _ _ k ?_
        unfold rootM updM
        simp only
        split
        · rename_i e; subst e; exact h
        · exact h
    obtain ⟨b, hv, gh, f1, f2, f3, f4⟩ := hM.hand ((r + j) % P.n) hk (hact _ _ _ _ (ha _ hk)) y
    have hlen := rootsM_hands P.n ((r + j) % P.n) (T.take j) S r
    have hh2 := hh _ hk
    have htl : (T.take j).length ≤ 1000000 := by simp; omega
    refine ⟨zb, off, e1, by rw [cell_of_heap e2]; exact e3, by rw [hM.mkr.f 3]; show some (Value.slice _ I.n I.cw) = _; rw [hn.2.2.2.2], hM.mkr.f 4, b, _, hv, gh, _, rfl, by omega, f1, f2, fun d => f3, fun d b3 off3 cap3 w3 q1 q2 q3 => ?_⟩
    obtain ⟨g1, g2, g3, g4, g5⟩ := f4 b3 off3 cap3 w3 q1 q2 ⟨q3.os, q3.tape, q3.output, q3.size, q3.block⟩
    obtain ⟨Bs2, k1, k2, k3⟩ := g5 ((r + (j + 1) : Nat) : Int)
    refine ⟨g1, g2, g3, g4, Bs2, ?_, fun i x hx => ?_⟩
    · have e5 : rootsM P.n S r (T.take (j + 1)) = rootM P.n (rootsM P.n S r (T.take j)) (r + j) y := by
        rw [take_snocL hy, rootsM_snoc]
        congr 2
        simp
        omega
      rw [e5]
      exact k1
    · obtain ⟨zb2, off2, c2, fr2, d1, d2, d3, d4⟩ := hR i x hx
      refine ⟨zb2, off2, c2, fr2, d1, k3 zb2 c2 fr2 d2 (d4 _ hk), d3, fun j' hj' hm => ?_⟩
      rcases k2 j' zb2 hm with g | g
      · exact d4 j' hj' g
      · have := lt_of_heap d2
        omega
  have hn4 := hn.2.2.2.1
  have hn1 := hn.2.2.1
  have h00 := hide h
  have hT0 := hide hT
  clear h hn ha hh hT
  have HS0 : Hid (rootsM P.n S r (T.take 0) = S) := rfl
  have HE : Hid (∀ j, T.length ≤ j → T.take j = T) := fun j hj => List.take_of_length_le (by omega)
  have HTl : Hid (∀ j, j < T.length → ∃ y, T[j]? = some y) := fun j hj => ⟨T[j]'(by omega), by simp⟩
  generalize rootsM P.n S r = SS at *
  generalize P.n = n at *
  generalize T.length = L at *
  go_enter Tryz.func14, Tryz.ntmps14
  go_wp2_with fail
  refine HN.out.mono ?_
  rintro e wz ⟨rfl, hwz⟩
  rw [hwz, World.drewN_zero]
  clear hwz wz HN
  go_wp2_with fail
  go_loopg [5, 6, 11, 12, 13, 14, 15, 16, 17, 18, 19, 20, 21, 22, 23, 24, 25, 26, 27, 28, 29, 30, 31, 32, 33, 34, 35, 36, 37, 38, 39, 40, 41, 42, 43, 44, 45, 46, 47, 48] L (fun gg _ _ s11 _ _ _ _ _ _ _ _ _ _ _ _ _ _ _ _ _ _ _ _ _ _ _ _ _ _ _ _ _ _ _ _ _ _ _ _ _ wr => ∃ (j : Nat), s11 = .int .i64 (j : Int) ∧ j ≤ L ∧ L - j ≤ gg ∧ Aside (∃ Bs', Mk P { I with roots := ((r + j : Nat) : Int) } w0 wr ds ws (SS (T.take j)) Bs' ∧ RootRd wr ao T n Bs'))
  case atStart => exact ⟨0, rfl, Nat.zero_le _, by omega, Bs, by rw [HS0.out]; exact h00.out, hT0.out⟩
  case round =>
    obtain ⟨j, rfl, hj, hgg, HI⟩ := hrel
    by_cases hlt : j < L
    · have hltz : (j : Int) < (L : Int) := by omega
      obtain ⟨y, hy⟩ := HTl.out j hlt
      obtain ⟨Bs', hM, hR⟩ := HI.out
      obtain ⟨zb, off, rfl, c1, c2, c3, b, m, hv, gh, H, hHm, hm2, c4, c5, c6, c7⟩ := HRound.out j y wr Bs' hy hR hM
      have H6 := hide (And.intro c6 c7)
      have hmod : ((r + j : Nat) : Int).tmod (n : Int) = (((r + j) % n : Nat) : Int) := by
        rw [Int.tmod_eq_emod_of_nonneg (by omega)]; simp
      have hnz : ¬ ((n : Int) = 0) := by omega
      have hmlt : (r + j) % n < n := Nat.mod_lt _ (by omega)
      have hadd : wrap64 (((r + j : Nat) : Int) + 1) = ((r + (j + 1) : Nat) : Int) := by rw [w64 _ (by omega)]; omega
      generalize (r + j) % n = k at *
      generalize hr2 : ((r + (j + 1) : Nat) : Int) = r2 at *
      have HR2 := hide hr2
      clear hr2
      generalize ((r + j : Nat) : Int) = r1 at *
      clear HI hM hR HRound c6 c7 hy HTl HE HS0 h00 hT0
      go_wp2_with fail
      go_quiet (fail)
      go_wp2_with (at_builtin; (refine wpList_append_sl _ rfl _ _ rfl hv H y gh rfl (H6.out.1 _) wr.heap.size rfl (cell_of_heap (heap_alloc_new _ _) 0) (by omega) ?_); intro b3 off3 cap3 w3 q1 q2 q3; obtain ⟨r1', r2', ⟨r3', r6'⟩, r4', r5'⟩ := H6.out.2 _ b3 off3 cap3 w3 q1 q2 q3; have H7 := hide r5'; clear q1 q2 q3 r5' H6)
      obtain ⟨Bs2, h8, h9⟩ := H7.out
      have H8 := hide (And.intro h8 h9)
      clear h8 h9 H7
      go_roundg (L - (j + 1))
      case measure => omega
      case rel => exact ⟨j + 1, by go_num, by omega, Nat.le_refl _, Bs2, (by rw [HR2.out, ← hHm]; exact H8.out.1), (by rw [← hHm]; exact H8.out.2)⟩
    · have hjm : j = L := by omega
      have hltz : ¬ (j : Int) < (L : Int) := by omega
      subst hjm
      obtain ⟨Bs', hM, hR⟩ := HI.out
      rw [HE.out j (Nat.le_refl _)] at hM
      have HM := hide hM
      clear hM hR HI HRound
      go_wp2_with fail
      first | refine bodyPost_end (results_none rfl _ _ _) rfl ?_ | refine bodyPost_ret (results_none rfl _ _ _) rfl ?_
      exact ⟨rfl, _, HM.out⟩
end
end Go.Proofs.YthpjlhfijkeciaaGreatDoor

/-
  The example in every statement of layer 11, without memory: it is played out.
-/
namespace Go.Proofs.YthpjlhfijkeciaaGreatDoor
open Go.RowKit
set_option linter.unusedVariables false

def H11 : List Int × List Int := heapOf [⟨0, 0, [1]⟩, ⟨2, 2, []⟩] 11
def P11 : MP := ⟨H11.1, four, 1, 2, 2⟩
def S11 : MS := rootsM 1 (MS.fresh (List.replicate 9 0) (fun _ => 0) 0 0) 0 [1, 0]
def it11 : Nat → MS
  | 0 => S11
  | j + 1 => stepM P11 (it11 j) 0

instance (C : Cfg) (o : OpS) : Decidable (CntOk C o) := by unfold CntOk; split <;> infer_instance
instance (C : Cfg) (l : List Int) (o : OpS) (N : Int) : Decidable (Fit C l o N) :=
  decidable_of_iff ((-N ≤ rd C l 0 ∧ rd C l 0 ≤ N) ∧ (-N ≤ rd C l 1 ∧ rd C l 1 ≤ N) ∧ (-N ≤ o.top ∧ o.top ≤ N) ∧ (-N ≤ o.bottom ∧ o.bottom ≤ N) ∧ CntOk C o) ⟨fun h => ⟨h.1, h.2.1, h.2.2.1, h.2.2.2.1, h.2.2.2.2⟩, fun h => ⟨h.t, h.b, h.ot, h.ob, h.cnt⟩⟩
instance (Q : QC) (o : OfS) : Decidable (QOk Q o) := by unfold QOk; split <;> infer_instance
instance (x : Int) : Decidable (In64 x) := by unfold In64; infer_instance
def decAnd {p q : Prop} (h1 : Decidable p) (h2 : Decidable q) : Decidable (p ∧ q) := inferInstance
def decImp {p q : Prop} (h1 : Decidable p) (h2 : Decidable q) : Decidable (p → q) := inferInstance
instance (P : MP) (S : MS) (k : Nat) : Decidable (MayM P S k) := by
  unfold MayM
  refine decImp inferInstance (decAnd inferInstance (decAnd inferInstance (decAnd inferInstance (decAnd inferInstance (decAnd inferInstance (decAnd inferInstance ?_))))))
  split
  · split
    · infer_instance
    · split
      · infer_instance
      · split <;> infer_instance
  · infer_instance
  · infer_instance
  · infer_instance
  · infer_instance
  · infer_instance

theorem h11_is : H11 = ([0, 4611686022722355200, 5, 0, 100003, 4611686031312289794, 100065, 100066, 4611686018427387906, 0, 0], [1, 5]) := by decide +kernel
set_option maxRecDepth 100000 in
/-- Each step may be done; the worker has ended with the 39th. -/
theorem aw11 : ∀ j, j < 39 → MayM P11 (it11 j) 0 ∧ ((it11 (j + 1)).X 0).ended = decide (j + 1 = 39) := by decide +kernel
theorem aw11_end : ((it11 39).X 0).ended = true ∧ ((it11 39).X 0).seen = 2 ∧ (it11 39).fault = 0 ∧ (it11 39).sz 1 = 4 ∧ (it11 39).sz 5 = 3 ∧ (List.range 11).map (it11 39).sz = [0, 4, 0, 0, 0, 3, 0, 0, 0, 0, 0] := by decide +kernel
end Go.Proofs.YthpjlhfijkeciaaGreatDoor

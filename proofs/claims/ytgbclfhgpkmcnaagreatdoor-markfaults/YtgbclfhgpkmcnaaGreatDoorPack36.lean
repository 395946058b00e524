/-
  Texts of the proof, several in one: MarkRoot, MarkBnd, MarkE, MarkBusy, MarkWait, MarkDeq, MarkTime, MarkGo.
-/
import Derived.Test.YtgbclfhgpkmcnaaGreatDoorPack34
import Derived.Test.YtgbclfhgpkmcnaaGreatDoorPack26
import Derived.BigQuiet
import Derived.Deep.QuietTactic
import Derived.Test.YtgbclfhgpkmcnaaGreatDoorPack33
import Derived.Test.YtgbclfhgpkmcnaaGreatDoorPack25
import Derived.Test.YtgbclfhgpkmcnaaGreatDoorPack31
/-
  Root of package mark: roots are laid in the workers' hands, by turns.
-/
namespace Go.Proofs.YtgbclfhgpkmcnaaGreatDoor
open Go.RowKit
set_option linter.unusedVariables false

/-- A root, the r-th of all. -/
def rootM (n : Nat) (S : MS) (r : Nat) (y : Int) : MS := { S with X := updM S.X (r % n) { S.X (r % n) with hands := (S.X (r % n)).hands ++ [y] } }
def rootsM (n : Nat) (S : MS) (r : Nat) : List Int → MS
  | [] => S
  | y :: ys => rootsM n (rootM n S r y) (r + 1) ys
theorem rootsM_snoc (n : Nat) (y : Int) : ∀ (T : List Int) (S : MS) (r : Nat), rootsM n S r (T ++ [y]) = rootM n (rootsM n S r T) (r + T.length) y
  | [], S, r => rfl
  | x :: T, S, r => by
    show rootsM n (rootM n S r x) (r + 1) (T ++ [y]) = _
    rw [rootsM_snoc n y T]
    show _ = rootM n (rootsM n (rootM n S r x) (r + 1) T) (r + (T.length + 1)) y
    rw [show r + 1 + T.length = r + (T.length + 1) by omega]
theorem rootM_hands (n : Nat) (S : MS) (r : Nat) (y : Int) (k : Nat) : ((rootM n S r y).X k).hands.length ≤ (S.X k).hands.length + 1 := by
  unfold rootM updM
  simp only
  split
  · rename_i h; subst h; simp
  · omega
theorem rootsM_hands (n : Nat) (k : Nat) : ∀ (T : List Int) (S : MS) (r : Nat), ((rootsM n S r T).X k).hands.length ≤ (S.X k).hands.length + T.length
  | [], S, r => by simp [rootsM]
  | x :: T, S, r => by
    have h1 := rootsM_hands n k T (rootM n S r x) (r + 1)
    have h2 := rootM_hands n S r x k
    simp only [rootsM, List.length_cons]
    omega

section
variable {P : MP} {I : Ids} {w0 w : World} {ds ws : List Nat} {S : MS} {Bs : Nat → List Nat}
/-- A reference is put behind those in a worker's hands. -/
theorem hand_out {k b : Nat} {ds : List Nat} {B : List Nat} {x : MW} {gd cd : Nat} {hv kv pv : Value} {gh gp O : List Nat} {nx : MStp} {bl : Blk} {asked : Int} {po : Option Addr} {item : Int} {pf : Option Addr} (C1 : Cx P I k ds w S b B) (W1 : Wm w b I.M I.a ds x B gd cd hv kv pv gh gp O nx bl asked po item pf) (ha : x.act = .choose) (y : Int) {w3 : World} {b3 off3 cap3 : Nat}
    (q1 : Sl 2 w3 (.slice (some ⟨b3, off3, none⟩) (x.hands.length + 1) cap3) (x.hands ++ [y]) [b3]) (q2 : b3 ∈ gh ∨ (w.alloc (.cells #[.int .i64 y] 2)).heap.size ≤ b3) (q3 : Turned gh (w.alloc (.cells #[.int .i64 y] 2)) w3) :
    WmR w3 b (mwCells nx b I.M gd ds.length cd hv kv bl pv asked po item pf x.seen x.ended) ∧ MkR w3 I.M (I.cells S.fault) ∧ Out P I k ds w b B S { x with hands := x.hands ++ [y] } (w3.setCell ⟨b, 3, none⟩ (.slice (some ⟨b3, off3, none⟩) (x.hands.length + 1) cap3)) := by
  have tA : Turned [] w (w.alloc (.cells #[.int .i64 y] 2)) := (Turned.refl _ _).alloc _
  have C2 := C1.keep0 tA
  have W2 := W1.keep0 tA
  have C3 := C2.keepH W2 q3
  obtain ⟨p1, p2, p3, p4, p5, p6⟩ := W2.partsH q3
  have hgB : ∀ z, z ∈ gh → z ∈ B := fun z hz => by rw [W1.own]; simp [hz]
  have T3 : Turned (I.all b B) w w3 := (tA.mono (by simp)).trans (q3.mono (Ids.inAll (fun z hz => by simp [hgB z hz])))
  have t4 : Turned [b] w3 (w3.setCell ⟨b, 3, none⟩ (.slice (some ⟨b3, off3, none⟩) (x.hands.length + 1) cap3)) := (Turned.refl _ _).setCell (by simp) _
  have raw4 := p3.set 3 (.slice (some ⟨b3, off3, none⟩) (x.hands.length + 1) cap3)
  have hB : ∀ z, z ∈ [b3] ++ (kv.ownBlock.toList ++ (gp ++ O)) → z ∈ B ∨ w.heap.size ≤ z := fun z hz => by
    have ho := W1.own
    rw [ho]
    simp only [List.mem_append, List.mem_singleton] at hz ⊢
    rcases hz with rfl | hz
    · rcases q2 with g | g
      · exact .inl (.inl g)
      · right
        simp at g
        omega
    · exact .inl (.inr hz)
  have hBo : ∀ z, z ∈ B → z ≠ b := fun z hz e => by
    obtain ⟨c2, e2, fr2, g1, g2⟩ := (show WmX _ _ _ _ _ _ _ from ⟨_, _, _, _, _, _, _, _, _, _, _, _, _, _, W1⟩ : WmX w b I.M I.a ds x B).types z hz
    refine ne_of_type g1 W1.raw ?_ e
    rcases g2 with rfl | rfl | rfl | rfl | rfl <;> decide
  have hw := (Off.one p3 (e := 120) (by decide))
  obtain ⟨c8, fr8, hr8⟩ := p1
  have hgd := hw.not hr8
  refine ⟨p3, C3.mkr, _, (C3.keepb p3 t4).own' (B' := [b3] ++ (kv.ownBlock.toList ++ (gp ++ O))) (fun z hz => ?_), ⟨gd, cd, _, kv, pv, [b3], gp, O, nx, bl, asked, po, item, pf, rfl, raw4, ⟨c8, fr8, t4.at hr8 hgd⟩, fun j d hj => by rw [t4.cell (p := ⟨gd, j, none⟩) (lt_of_heap hr8) hgd]; exact p2 j d hj, ?_, p4.turned t4 (fun z hz => ?_), p5.turned t4 (fun z hz => ?_), ?_⟩, fun z hz => hB z hz, T3.trans (t4.mono (Ids.inAll (by simp)))⟩
  · rcases hB z hz with g | g
    · exact .inl g
    · have l1 := C1.hm.ltq
      have l2 := C1.sh.mem.ltq
      exact .inr ⟨by omega, by omega, by omega⟩
  · refine Sl.turned (T := x.hands ++ [y]) ?_ t4 (fun z hz => ?_)
    · exact q1
    · obtain ⟨c9, fr9, g9⟩ := q1.types z hz
      exact (Off.one p3 (by decide)).not g9
  · obtain ⟨c9, fr9, g9⟩ := p4.types z hz
    exact (Off.one p3 (by decide)).not g9
  · obtain ⟨c9, fr9, g9⟩ := p5.types z hz
    exact (Off.one p3 (by decide)).not g9
  · show ActB _ _ _ _ _ _ _ _ _ _ x.act
    rw [ha] at p6 ⊢
    exact p6
/-- What Root goes by at its next ref. -/
theorem Mk.hand (h : Mk P I w0 w ds ws S Bs) (k : Nat) (hk : k < P.n) (ha : (S.X k).act = .choose) (y : Int) :
    ∃ (b : Nat) (hv : Value) (gh : List Nat), w.cell? ⟨I.gw, k, none⟩ = some (.pointer (some ⟨b, 0, none⟩)) ∧ w.cell? ⟨b, 3, none⟩ = some hv ∧ Sl 2 (w.alloc (.cells #[.int .i64 y] 2)) hv (S.X k).hands gh ∧
      ∀ (b3 off3 cap3 : Nat) (w3 : World), Sl 2 w3 (.slice (some ⟨b3, off3, none⟩) ((S.X k).hands.length + 1) cap3) ((S.X k).hands ++ [y]) [b3] → (b3 ∈ gh ∨ (w.alloc (.cells #[.int .i64 y] 2)).heap.size ≤ b3) → Turned gh (w.alloc (.cells #[.int .i64 y] 2)) w3 →
        w3.cell? ⟨b, 3, none⟩ = some hv ∧ w3.frozen? ⟨b, 3, none⟩ = false ∧ (w3.cell? ⟨I.M, 4, none⟩ = some (.int .i64 I.roots) ∧ b ≠ I.M) ∧ w3.frozen? ⟨I.M, 4, none⟩ = false ∧
        ∀ r' : Int, ∃ Bs', Mk P { I with roots := r' } w0 ((w3.setCell ⟨b, 3, none⟩ (.slice (some ⟨b3, off3, none⟩) ((S.X k).hands.length + 1) cap3)).setCell ⟨I.M, 4, none⟩ (.int .i64 r')) ds ws { S with X := updM S.X k { S.X k with hands := (S.X k).hands ++ [y] } } Bs' ∧ (∀ i z, z ∈ Bs' i → z ∈ Bs i ∨ w.heap.size ≤ z) ∧ ∀ z c fr, w.heap[z]? = some (.cells c 2 fr) → z ∉ Bs k → ((w3.setCell ⟨b, 3, none⟩ (.slice (some ⟨b3, off3, none⟩) ((S.X k).hands.length + 1) cap3)).setCell ⟨I.M, 4, none⟩ (.int .i64 r')).heap[z]? = some (.cells c 2 fr) := by
  have hn := h.n
  obtain ⟨b, hb⟩ : ∃ b, ws[k]? = some b := ⟨ws[k]'(by omega), by simp⟩
  obtain ⟨gd, cd, hv, kv, pv, gh, gp, O, nx, bl, asked, po, item, pf, hW⟩ := h.wk k b hb
  have C := h.cx hb
  refine ⟨b, hv, gh, h.rows k b hb, hW.raw.f 3, hW.hands.turned ((Turned.refl [] w).alloc _) (by simp), fun b3 off3 cap3 w3 q1 q2 q3 => ?_⟩
  obtain ⟨r1, r2, hO⟩ := hand_out C hW ha y q1 q2 q3
  obtain ⟨Bs', hM, hB⟩ := h.updB hb (S' := { S with X := updM S.X k { S.X k with hands := (S.X k).hands ++ [y] } }) (by
    obtain ⟨B', C', W', hB', t'⟩ := hO
    exact ⟨B', C'.same rfl rfl rfl rfl rfl, W', hB', t'⟩) rfl
  refine ⟨r1.f 3, r1.fz 3, ⟨r2.f 4, ne_of_type hW.raw h.mkr (by decide)⟩, r2.fz 4, fun r' => ⟨Bs', hM.rooted r', hB, fun z c fr hz h1 => ?_⟩⟩
  have tA : Turned [] w (w.alloc (.cells #[.int .i64 y] 2)) := (Turned.refl _ _).alloc _
  have t1 : Turned (b :: I.M :: gh) w w3 := (tA.mono (by simp)).trans (q3.mono (fun z hz => by simp [hz]))
  have n1 : z ∉ gh := fun hm => h1 (by rw [hW.own]; simp [hm])
  have n2 : z ≠ b := ne_of_type hz hW.raw (by decide)
  have n3 : z ≠ I.M := ne_of_type hz h.mkr (by decide)
  exact ((t1.setCell (p := ⟨b, 3, none⟩) (by simp) _).setCell (p := ⟨I.M, 4, none⟩) (by simp) _).at hz (by simp [n1, n2, n3])

/-- The refs that Root is handed. -/
def RootRd (w : World) (ao : Option Addr) (T : List Int) (n : Nat) (Bs : Nat → List Nat) : Prop :=
  ∀ (i : Nat) x, T[i]? = some x → ∃ b off c fr, ao = some ⟨b, off, none⟩ ∧ w.heap[b]? = some (.cells c 2 fr) ∧ c[off + i]? = some (.int .i64 x) ∧ ∀ j, j < n → b ∉ Bs j

set_option maxRecDepth 100000 in
set_option maxHeartbeats 4000000 in
theorem mroot_any (r : Nat) (T : List Int) (ao : Option Addr) (cap : Nat) (h : Mk P { I with roots := (r : Int) } w0 w ds ws S Bs) (hb : r + T.length ≤ 1000000) (ha : ∀ k, k < P.n → (S.X k).act = .choose) (hh : ∀ k, k < P.n → (S.X k).hands.length ≤ 1000000) (hT : RootRd w ao T P.n Bs) :
    Calls Tryz.prog 14 #[.pointer (some ⟨I.M, 0, none⟩), .slice ao T.length cap] w fun e w' => e = .returned (.tuple #[]) ∧ ∃ Bs', Mk P { I with roots := ((r + T.length : Nat) : Int) } w0 w' ds ws (rootsM P.n S r T) Bs' := by
  have HN := hide (none_false P { I with roots := (r : Int) } w0 w ds ws S Bs h 0)
  have hn := h.n
  have HRound : Hid (∀ (j : Nat) (y : Int) (wr : World) (Bs' : Nat → List Nat), T[j]? = some y → RootRd wr ao T P.n Bs' → Mk P { I with roots := ((r + j : Nat) : Int) } w0 wr ds ws (rootsM P.n S r (T.take j)) Bs' → ∃ zb off, ao = some ⟨zb, off, none⟩ ∧ wr.cell? ⟨zb, off + j, none⟩ = some (.int .i64 y) ∧ wr.cell? ⟨I.M, 3, none⟩ = some (.slice (some ⟨I.gw, 0, none⟩) P.n I.cw) ∧ wr.cell? ⟨I.M, 4, none⟩ = some (.int .i64 ((r + j : Nat) : Int)) ∧
      ∃ (b m : Nat) (hv : Value) (gh : List Nat) (H : List Int), H.length = m ∧ m ≤ 2000000 ∧ wr.cell? ⟨I.gw, (r + j) % P.n, none⟩ = some (.pointer (some ⟨b, 0, none⟩)) ∧ wr.cell? ⟨b, 3, none⟩ = some hv ∧ (∀ d, Sl 2 ((wr.drewN d).alloc (.cells #[.int .i64 y] 2)) hv H gh) ∧
      ∀ (d b3 off3 cap3 : Nat) (w3 : World), Sl 2 w3 (.slice (some ⟨b3, off3, none⟩) (H.length + 1) cap3) (H ++ [y]) [b3] → (b3 ∈ gh ∨ ((wr.drewN d).alloc (.cells #[.int .i64 y] 2)).heap.size ≤ b3) → Turned gh ((wr.drewN d).alloc (.cells #[.int .i64 y] 2)) w3 →
        w3.cell? ⟨b, 3, none⟩ = some hv ∧ w3.frozen? ⟨b, 3, none⟩ = false ∧ (w3.cell? ⟨I.M, 4, none⟩ = some (.int .i64 ((r + j : Nat) : Int)) ∧ b ≠ I.M) ∧ w3.frozen? ⟨I.M, 4, none⟩ = false ∧
        ∃ Bs2, Mk P { I with roots := ((r + (j + 1) : Nat) : Int) } w0 ((w3.setCell ⟨b, 3, none⟩ (.slice (some ⟨b3, off3, none⟩) (H.length + 1) cap3)).setCell ⟨I.M, 4, none⟩ (.int .i64 ((r + (j + 1) : Nat) : Int))) ds ws (rootsM P.n S r (T.take (j + 1))) Bs2 ∧ RootRd ((w3.setCell ⟨b, 3, none⟩ (.slice (some ⟨b3, off3, none⟩) (H.length + 1) cap3)).setCell ⟨I.M, 4, none⟩ (.int .i64 ((r + (j + 1) : Nat) : Int))) ao T P.n Bs2) := by
    intro j y wr Bs' hy hR hM
    have hk : (r + j) % P.n < P.n := Nat.mod_lt _ (by omega)
    have hjl := (List.getElem?_eq_some_iff.1 hy).1
    obtain ⟨zb, off, c, fr, e1, e2, e3, e4⟩ := hR j y hy
    have hact : ∀ (T : List Int) (S : MS) (r : Nat) k, (S.X k).act = .choose → ((rootsM P.n S r T).X k).act = .choose := by
      intro T
      induction T with
      | nil => intro S r k h; exact h
      | cons x T ih =>
        intro S r k h
        refine ih _ _ k ?_
        unfold rootM updM
        simp only
        split
        · rename_i e; subst e; exact h
        · exact h
    obtain ⟨b, hv, gh, f1, f2, f3, f4⟩ := hM.hand ((r + j) % P.n) hk (hact _ _ _ _ (ha _ hk)) y
    have hlen := rootsM_hands P.n ((r + j) % P.n) (T.take j) S r
    have hh2 := hh _ hk
    have htl : (T.take j).length ≤ 1000000 := by simp; omega
    refine ⟨zb, off, e1, by rw [cell_of_heap e2]; exact e3, by rw [hM.mkr.f 3]; show some (Value.slice _ I.n I.cw) = _; rw [hn.2.2.2.2], hM.mkr.f 4, b, _, hv, gh, _, rfl, by omega, f1, f2, fun d => f3, fun d b3 off3 cap3 w3 q1 q2 q3 => ?_⟩
    obtain ⟨g1, g2, g3, g4, g5⟩ := f4 b3 off3 cap3 w3 q1 q2 ⟨q3.os, q3.tape, q3.output, q3.size, q3.block⟩
    obtain ⟨Bs2, k1, k2, k3⟩ := g5 ((r + (j + 1) : Nat) : Int)
    refine ⟨g1, g2, g3, g4, Bs2, ?_, fun i x hx => ?_⟩
    · have e5 : rootsM P.n S r (T.take (j + 1)) = rootM P.n (rootsM P.n S r (T.take j)) (r + j) y := by
        rw [take_snocL hy, rootsM_snoc]
        congr 2
        simp
        omega
      rw [e5]
      exact k1
    · obtain ⟨zb2, off2, c2, fr2, d1, d2, d3, d4⟩ := hR i x hx
      refine ⟨zb2, off2, c2, fr2, d1, k3 zb2 c2 fr2 d2 (d4 _ hk), d3, fun j' hj' hm => ?_⟩
      rcases k2 j' zb2 hm with g | g
      · exact d4 j' hj' g
      · have := lt_of_heap d2
        omega
  have hn4 := hn.2.2.2.1
  have hn1 := hn.2.2.1
  have h00 := hide h
  have hT0 := hide hT
  clear h hn ha hh hT
  have HS0 : Hid (rootsM P.n S r (T.take 0) = S) := rfl
  have HE : Hid (∀ j, T.length ≤ j → T.take j = T) := fun j hj => List.take_of_length_le (by omega)
  have HTl : Hid (∀ j, j < T.length → ∃ y, T[j]? = some y) := fun j hj => ⟨T[j]'(by omega), by simp⟩
  generalize rootsM P.n S r = SS at *
  generalize P.n = n at *
  generalize T.length = L at *
  go_enter Tryz.func14, Tryz.ntmps14
  go_wp2_with fail
  refine HN.out.mono ?_
  rintro e wz ⟨rfl, hwz⟩
  rw [hwz, World.drewN_zero]
  clear hwz wz HN
  go_wp2_with fail
  go_loopg [5, 6, 11, 12, 13, 14, 15, 16, 17, 18, 19, 20, 21, 22, 23, 24, 25, 26, 27, 28, 29, 30, 31, 32, 33, 34, 35, 36, 37, 38, 39, 40, 41, 42, 43, 44, 45, 46, 47, 48] L (fun gg _ _ s11 _ _ _ _ _ _ _ _ _ _ _ _ _ _ _ _ _ _ _ _ _ _ _ _ _ _ _ _ _ _ _ _ _ _ _ _ _ wr => ∃ (j : Nat), s11 = .int .i64 (j : Int) ∧ j ≤ L ∧ L - j ≤ gg ∧ Aside (∃ Bs', Mk P { I with roots := ((r + j : Nat) : Int) } w0 wr ds ws (SS (T.take j)) Bs' ∧ RootRd wr ao T n Bs'))
  case atStart => exact ⟨0, rfl, Nat.zero_le _, by omega, Bs, by rw [HS0.out]; exact h00.out, hT0.out⟩
  case round =>
    obtain ⟨j, rfl, hj, hgg, HI⟩ := hrel
    by_cases hlt : j < L
    · have hltz : (j : Int) < (L : Int) := by omega
      obtain ⟨y, hy⟩ := HTl.out j hlt
      obtain ⟨Bs', hM, hR⟩ := HI.out
      obtain ⟨zb, off, rfl, c1, c2, c3, b, m, hv, gh, H, hHm, hm2, c4, c5, c6, c7⟩ := HRound.out j y wr Bs' hy hR hM
      have H6 := hide (And.intro c6 c7)
      have hmod : ((r + j : Nat) : Int).tmod (n : Int) = (((r + j) % n : Nat) : Int) := by
        rw [Int.tmod_eq_emod_of_nonneg (by omega)]; simp
      have hnz : ¬ ((n : Int) = 0) := by omega
      have hmlt : (r + j) % n < n := Nat.mod_lt _ (by omega)
      have hadd : wrap64 (((r + j : Nat) : Int) + 1) = ((r + (j + 1) : Nat) : Int) := by rw [w64 _ (by omega)]; omega
      generalize (r + j) % n = k at *
      generalize hr2 : ((r + (j + 1) : Nat) : Int) = r2 at *
      have HR2 := hide hr2
      clear hr2
      generalize ((r + j : Nat) : Int) = r1 at *
      clear HI hM hR HRound c6 c7 hy HTl HE HS0 h00 hT0
      go_wp2_with fail
      go_quiet (fail)
      go_wp2_with (at_builtin; (refine wpList_append_sl _ rfl _ _ rfl hv H y gh rfl (H6.out.1 _) wr.heap.size rfl (cell_of_heap (heap_alloc_new _ _) 0) (by omega) ?_); intro b3 off3 cap3 w3 q1 q2 q3; obtain ⟨r1', r2', ⟨r3', r6'⟩, r4', r5'⟩ := H6.out.2 _ b3 off3 cap3 w3 q1 q2 q3; have H7 := hide r5'; clear q1 q2 q3 r5' H6)
      obtain ⟨Bs2, h8, h9⟩ := H7.out
      have H8 := hide (And.intro h8 h9)
      clear h8 h9 H7
      go_roundg (L - (j + 1))
      case measure => omega
      case rel => exact ⟨j + 1, by go_num, by omega, Nat.le_refl _, Bs2, (by rw [HR2.out, ← hHm]; exact H8.out.1), (by rw [← hHm]; exact H8.out.2)⟩
    · have hjm : j = L := by omega
      have hltz : ¬ (j : Int) < (L : Int) := by omega
      subst hjm
      obtain ⟨Bs', hM, hR⟩ := HI.out
      rw [HE.out j (Nat.le_refl _)] at hM
      have HM := hide hM
      clear hM hR HI HRound
      go_wp2_with fail
      first | refine bodyPost_end (results_none rfl _ _ _) rfl ?_ | refine bodyPost_ret (results_none rfl _ _ _) rfl ?_
      exact ⟨rfl, _, HM.out⟩
end
end Go.Proofs.YtgbclfhgpkmcnaaGreatDoor

/-
  The marker without memory: numbers stay small ('Bm'), each step may be done ('Bm.may'), a step has one access or one mark at most ('step_one'). No Go is walked here.
-/
namespace Go.Proofs.YtgbclfhgpkmcnaaGreatDoor
open Go.RowKit
set_option linter.unusedVariables false
set_option linter.unusedSimpArgs false

def Sm (Z x : Int) : Prop := -Z ≤ x ∧ x ≤ Z
theorem Sm.up {Z x : Int} (h : Sm Z x) : Sm (Z + 1) x := by unfold Sm at *; omega
def LB (Z : Int) (l : List Int) : Prop := ∀ x, x ∈ l → Sm Z x
theorem LB.get {Z : Int} {l : List Int} (h : LB Z l) (hZ : 0 ≤ Z) (i : Nat) : Sm Z (l.getD i 0) := by
  rw [List.getD_eq_getElem?_getD]
  cases hx : l[i]? with
  | none => unfold Sm; simp; omega
  | some x => exact h x (List.mem_of_getElem? hx)
theorem LB.up {Z : Int} {l : List Int} (h : LB Z l) : LB (Z + 1) l := fun x hx => (h x hx).up
theorem LB.set {Z : Int} {l : List Int} (h : LB Z l) {v : Int} (hv : Sm Z v) (i : Nat) : LB Z (l.set i v) := fun x hx => by
  rcases List.mem_or_eq_of_mem_set hx with h1 | h1
  · exact h x h1
  · rw [h1]; exact hv
def OB (Z : Int) (o : OpS) : Prop := Sm Z o.top ∧ Sm Z o.bottom ∧ Sm Z o.item

theorem op_step {C : Cfg} {l : List Int} {o : OpS} {Z : Int} (hZ : 5000 ≤ Z) (hov : C.over ≤ 4096) (hl : LB Z l) (ho : OB Z o) (hc : CntOk C o) : LB (Z + 1) (stepOf C l o).1 ∧ OB (Z + 1) (stepOf C l o).2 := by
  have r : ∀ k, Sm Z (rd C l k) := fun k => hl.get (by omega) _
  have r0 := r 0
  have r1 := r 1
  obtain ⟨h1, h2, h3⟩ := ho
  have hu := hl.up
  unfold stepOf
  by_cases hd : o.done = true
  · rw [if_pos hd]; exact ⟨hu, h1.up, h2.up, h3.up⟩
  rw [if_neg hd]
  unfold CntOk at hc
  have sl : ∀ k, Sm (Z + 1) (rd C l k) := fun k => (r k).up
  cases hat : o.at_ <;> rw [hat] at hc <;> simp only at hc ⊢ <;> (try split) <;> refine ⟨?_, ?_, ?_, ?_⟩ <;> first | exact hu | exact h1.up | exact h2.up | exact h3.up | exact sl _ | (exact hu.set h3.up _) | (refine hu.set ?_ _; unfold Sm at *; omega) | (unfold Sm at *; simp only; omega)

theorem of_step {Q : QC} {l : List Int} {o : OfS} {Z : Int} (hZ : 5000 ≤ Z) (hl : LB Z l) : LB (Z + 1) (stepQ Q l o).1 := by
  have hu := hl.up
  have r0 : Sm Z (cnt Q l) := hl.get (by omega) _
  unfold stepQ
  split
  · cases o.at_ <;> simp only <;> (try split) <;> first | exact hu | (refine hu.set ?_ _; unfold Sm at *; omega)
  · exact hu
theorem look_ok (Q : QC) (o : OfS) {k : Nat} (h : k ≤ Q.cs.length) : QOk Q (lookQ Q o k) := by
  unfold QOk lookQ
  by_cases hk : k = Q.cs.length
  · simp [hk]
  · simp [hk]; omega
theorem qok_step {Q : QC} {l : List Int} {o : OfS} (h : QOk Q o) (hs : o.state = 0) : QOk Q (stepQ Q l o).2 := by
  unfold stepQ
  rw [if_pos hs]
  have h0 := h
  unfold QOk at h
  cases hat : o.at_ <;> rw [hat] at h <;> simp only at h ⊢
  · unfold QOk; trivial
  · split
    · unfold QOk; trivial
    · exact look_ok Q o (Nat.zero_le _)
  · unfold QOk; exact h
  · by_cases hx : o.top < rd (cOf Q o.k) l 1
    · rw [if_pos hx]; unfold QOk; trivial
    · rw [if_neg hx]; unfold QOk; exact h
  · split
    · unfold QOk; trivial
    · exact look_ok Q o (by omega)
  · unfold QOk; trivial

/-- A block that was read: its numbers may be, its references stand within the heap. -/
structure BlkOk (P : MP) (b : Blk) : Prop where
  n : In64 b.n
  t : 0 ≤ b.t ∧ b.t ≤ 65536
  s : In64 b.s
  ps : ∀ p, p ∈ P.places b → 0 ≤ p ∧ p < P.hw.length
  len : (P.places b).length ≤ 65536
theorem refs_in {cs : List Cls} {k n : Int} (h : (sizeOf cs k n).2 = 0) : refsOf cs k n + 1 ≤ (sizeOf cs k n).1 := by
  unfold sizeOf refsOf told at *
  split at h
  · simp at h
  · rename_i c hc
    split at h
    · rename_i hn
      have := clsAt_few hc hn
      simp only [if_pos hn, gSize, gRefs]
      omega
    · simp at h
theorem obj_ok {P : MP} (hl : P.hw.length ≤ 65536) {r : Int} {b : Blk} (h : P.obj r = some b) : BlkOk P b ∧ b.t = r := by
  obtain ⟨h1, h2⟩ := obj_some h
  obtain ⟨a1, a2, a3, a4, a5, a6, a7, x, a8, a9, a10, a11⟩ := readOf_some h1
  have h3 := refs_in a6
  have h4 := refsOf_range P.cl b.k b.n
  refine ⟨⟨?_, by omega, by unfold In64; omega, fun p hp => ?_, ?_⟩, a1⟩
  · rw [a11]; unfold partL In64; omega
  · unfold MP.places at hp
    obtain ⟨i, hi, rfl⟩ := List.mem_map.1 hp
    unfold rowTo at hi
    obtain ⟨j, hj, rfl⟩ := List.mem_map.1 hi
    rw [List.mem_range] at hj
    omega
  · unfold MP.places
    rw [List.length_map, rowTo_length]
    omega

/-- What a worker's next step goes by. -/
def ActOk (P : MP) (k : Nat) (Z : Int) : MAct → Prop
  | .choose => True
  | .mark b => BlkOk P b
  | .push b o => BlkOk P b ∧ OB Z o ∧ CntOk (P.dq k 0) o ∧ o.done = false
  | .take a o => a < P.n ∧ OB Z o ∧ CntOk (P.dq k a) o ∧ o.done = false
  | .open_ v => Sm Z v
  | .end_ o => QOk (P.Q k) o ∧ o.state = 0
theorem OB.up {Z : Int} {o : OpS} (h : OB Z o) : OB (Z + 1) o := ⟨h.1.up, h.2.1.up, h.2.2.up⟩
theorem ActOk.up {P : MP} {k : Nat} {Z : Int} {a : MAct} (h : ActOk P k Z a) : ActOk P k (Z + 1) a := by
  cases a with
  | choose => trivial
  | mark b => exact h
  | push b o => exact ⟨h.1, h.2.1.up, h.2.2⟩
  | take a o => exact ⟨h.1, h.2.1.up, h.2.2⟩
  | open_ v => exact Sm.up h
  | end_ o => exact h
/-- A worker whose numbers are small. -/
structure WB (P : MP) (k : Nat) (Z : Int) (M : Int) (H : Nat) (x : MW) : Prop where
  seen : 0 ≤ x.seen ∧ x.seen ≤ M
  hl : x.hands.length ≤ H
  hin : ∀ r, r ∈ x.hands → In64 r
  kl : (x.kept.length : Int) ≤ M
  kin : ∀ b, b ∈ x.kept → BlkOk P b
  pl : x.places.length ≤ 65536
  pin : ∀ p, p ∈ x.places → 0 ≤ p ∧ p < P.hw.length
  act : x.ended = false → ActOk P k Z x.act
theorem WB.up {P : MP} {k : Nat} {Z M : Int} {H : Nat} {x : MW} (h : WB P k Z M H x) : WB P k (Z + 1) (M + 1) H x :=
  ⟨by have := h.seen; omega, h.hl, h.hin, by have := h.kl; omega, h.kin, h.pl, h.pin, fun e => (h.act e).up⟩
/-- What a marker is made of may be. -/
structure BP (P : MP) : Prop where
  n1 : 1 ≤ P.n
  hl : P.hw.length ≤ 65536
  hin : ∀ x, x ∈ P.hw → In64 x
  ov : P.over ≤ 4096
/-- Behind so many steps. -/
structure Bm (P : MP) (H : Nat) (M : Int) (S : MS) : Prop where
  m0 : 0 ≤ M
  hs : 0 ≤ S.hs ∧ S.hs ≤ M
  cs : 0 ≤ S.cs ∧ S.cs ≤ M
  l : LB (M + 70000) S.l
  w : ∀ k, k < P.n → WB P k (M + 70000) M H (S.X k)

section
variable {P : MP} {H : Nat} {M : Int} {S : MS} {k : Nat}
theorem word_in (hP : BP P) (p : Int) : In64 (P.word p) := by
  unfold MP.word
  cases h : wordAt P.hw p with
  | none => unfold In64; simp
  | some x =>
    obtain ⟨i, _, _, hx⟩ := wordAt_some h
    exact hP.hin x (List.mem_of_getElem? hx)
theorem acc_le (P : MP) (r : Int) : 0 ≤ P.acc r ∧ P.acc r ≤ 1 := by unfold MP.acc; split <;> omega
theorem oneIf_le (l : List Int) : 0 ≤ oneIf l ∧ oneIf l ≤ 1 := by unfold oneIf; split <;> omega
theorem new_ob {Z : Int} (hZ : 0 ≤ Z) (a : Stp) {v : Int} (hv : Sm Z v) : OB Z (opNew a v) := by
  unfold OB opNew
  refine ⟨?_, ?_, hv⟩ <;> (unfold Sm; simp; omega)
theorem cok_new (C : Cfg) (v : Int) : CntOk C (opNew .popReadBottom v) ∧ CntOk C (opNew .stealReadTop v) ∧ CntOk C (opNew .pushReadBottom v) := ⟨trivial, trivial, trivial⟩
theorem ask_ok (hP : BP P) {Z : Int} (hZ : 0 ≤ Z) (x : MW) {a : Nat} (ha : a ≤ P.n) : ActOk P k Z (askW P x a).act ∧ (askW P x a) = { x with act := (askW P x a).act } := by
  have s0 : Sm Z 0 := by unfold Sm; omega
  unfold askW
  by_cases h1 : a = P.n
  · rw [if_pos h1]
    refine ⟨⟨trivial, rfl⟩, rfl⟩
  · rw [if_neg h1]
    by_cases h2 : a = 0
    · rw [if_pos h2]
      refine ⟨⟨by have := hP.n1; omega, new_ob hZ _ s0, (cok_new _ _).1, rfl⟩, rfl⟩
    · rw [if_neg h2]
      refine ⟨⟨by omega, new_ob hZ _ s0, (cok_new _ _).2.1, rfl⟩, rfl⟩
theorem WB.acts {Z : Int} {x y : MW} (h : WB P k Z M H x) (ha : ActOk P k Z y.act) (he : y = { x with act := y.act }) : WB P k Z M H y := by
  rw [he]
  exact ⟨h.seen, h.hl, h.hin, h.kl, h.kin, h.pl, h.pin, fun _ => ha⟩
theorem took_ok (hP : BP P) {Z : Int} (hZ : 0 ≤ Z) (x : MW) {a : Nat} (ha : a < P.n) {o : OpS} (ho : OB Z o) (hc : CntOk (P.dq k a) o) : ActOk P k Z (tookW P x a o).act ∧ tookW P x a o = { x with act := (tookW P x a o).act } := by
  unfold tookW
  by_cases h1 : o.done = true
  · rw [if_pos h1]
    by_cases h2 : (valOf o).2 = 0
    · rw [if_pos h2]
      refine ⟨?_, rfl⟩
      show Sm Z (valOf o).1
      unfold valOf at *
      rw [if_pos h1] at h2 ⊢
      by_cases h3 : o.errno = 0
      · rw [if_pos h3]; exact ho.2.2
      · rw [if_neg h3] at h2; exact absurd h2 h3
    · rw [if_neg h2]
      by_cases h3 : (valOf o).2 = 16
      · rw [if_pos h3]; exact ask_ok hP hZ x (by omega)
      · rw [if_neg h3]; exact ask_ok hP hZ x (by omega)
  · rw [if_neg h1]
    exact ⟨⟨ha, ho, hc, by simpa using h1⟩, rfl⟩
theorem dq_over (P : MP) (k a : Nat) : (P.dq k a).over = P.over := rfl

/-- One worker is another one. -/
theorem Bm.upd (h : Bm P H M S) {S' : MS} {x : MW} (hX : S'.X = updM S.X k x) (hx : WB P k (M + 1 + 70000) (M + 1) H x) (hl : LB (M + 1 + 70000) S'.l) (h1 : S.hs ≤ S'.hs ∧ S'.hs ≤ S.hs + 1) (h2 : S.cs ≤ S'.cs ∧ S'.cs ≤ S.cs + 1) : Bm P H (M + 1) S' := by
  refine ⟨by have := h.m0; omega, by have := h.hs; omega, by have := h.cs; omega, hl, fun j hj => ?_⟩
  rw [hX]
  by_cases e : j = k
  · subst e; rw [updM_at]; exact hx
  · rw [updM_ne _ _ e]
    have := (h.w j hj).up
    rw [show M + 70000 + 1 = M + 1 + 70000 by omega] at this
    exact this
theorem Bm.up (h : Bm P H M S) : Bm P H (M + 1) S := by
  refine ⟨by have := h.m0; omega, by have := h.hs; omega, by have := h.cs; omega, ?_, fun j hj => ?_⟩
  · have := h.l.up
    rw [show M + 70000 + 1 = M + 1 + 70000 by omega] at this
    exact this
  · have := (h.w j hj).up
    rw [show M + 70000 + 1 = M + 1 + 70000 by omega] at this
    exact this
theorem scan_ok {Z : Int} {x : MW} (h : WB P k Z M H x) (hM : 0 ≤ M) {b : Blk} (hb : BlkOk P b) : WB P k (Z + 1) (M + 1) H (scanW P x b) := by
  have h1 := oneIf_le (P.places b)
  have h2 := h.seen
  have h3 := h.kl
  unfold scanW
  exact ⟨by show 0 ≤ x.seen + _ ∧ x.seen + _ ≤ M + 1; omega, h.hl, h.hin, by show (x.kept.length : Int) ≤ M + 1; omega, h.kin, hb.len, hb.ps, fun _ => trivial⟩
theorem take_ok (hP : BP P) (h : Bm P H M S) (hk : k < P.n) {x : MW} (hx : WB P k (M + 70000) M H { x with act := .choose }) {a : Nat} (ha : a < P.n) {o : OpS} (ho : OB (M + 70000) o) (hc : CntOk (P.dq k a) o) : Bm P H (M + 1) (takeM P S k x a o) := by
  have hm := h.m0
  obtain ⟨s1, s2⟩ := op_step (C := P.dq k a) (Z := M + 70000) (by omega) (by rw [dq_over]; exact hP.ov) h.l ho hc
  have s3 := cnt_own (P.dq k a) S.l o hc
  rw [show M + 70000 + 1 = M + 1 + 70000 by omega] at s1 s2
  unfold takeM
  generalize (stepOf (P.dq k a) S.l o).1 = l' at *
  generalize (stepOf (P.dq k a) S.l o).2 = o' at *
  obtain ⟨t1, t2⟩ := took_ok (k := k) hP (Z := M + 1 + 70000) (by omega) x ha s2 s3
  refine h.upd (x := tookW P x a o') rfl ?_ s1 ⟨by simp, by simp; omega⟩ ⟨by simp; omega, by simp⟩
  have u := hx.up
  rw [show M + 70000 + 1 = M + 1 + 70000 by omega] at u
  generalize tookW P x a o' = y at *
  rw [t2]
  exact ⟨u.seen, u.hl, u.hin, u.kl, u.kin, u.pl, u.pin, fun _ => t1⟩
theorem WB.chosen {Z : Int} {x : MW} (h : WB P k Z M H x) : WB P k Z M H { x with act := .choose } := ⟨h.seen, h.hl, h.hin, h.kl, h.kin, h.pl, h.pin, fun _ => trivial⟩
theorem choose_ok (hP : BP P) (hH : 1 ≤ H) (h : Bm P H M S) (hk : k < P.n) {x : MW} (hx : WB P k (M + 70000) M H x) : Bm P H (M + 1) (chooseM P S k x) := by
  have hm := h.m0
  have u := hx.up
  rw [show M + 70000 + 1 = M + 1 + 70000 by omega] at u
  have ul := h.l.up
  rw [show M + 70000 + 1 = M + 1 + 70000 by omega] at ul
  unfold chooseM
  cases hh : x.hands with
  | cons r hs =>
    have hl := hx.hl
    rw [hh] at hl
    have hin := hx.hin
    rw [hh] at hin
    have tl : ∀ y, y ∈ hs → In64 y := fun y hy => hin y (List.mem_cons_of_mem _ hy)
    have len : hs.length ≤ H := by simp at hl; omega
    have a := acc_le P r
    simp only
    by_cases h0 : r = 0
    · rw [if_pos h0]
      exact h.upd rfl ⟨u.seen, len, tl, u.kl, u.kin, u.pl, u.pin, u.act⟩ ul ⟨by simp, by simp; omega⟩ ⟨by simp, by simp; omega⟩
    · rw [if_neg h0]
      cases ho : P.obj r with
      | none => exact h.upd rfl ⟨u.seen, len, tl, u.kl, u.kin, u.pl, u.pin, u.act⟩ ul ⟨by simp only; omega, by simp only; omega⟩ ⟨by simp, by simp; omega⟩
      | some b => exact h.upd rfl ⟨u.seen, len, tl, u.kl, u.kin, u.pl, u.pin, fun _ => (obj_ok hP.hl ho).1⟩ ul ⟨by simp only; omega, by simp only; omega⟩ ⟨by simp, by simp; omega⟩
  | nil =>
    simp only
    cases hp : x.places with
    | cons p ps =>
      have pin := hx.pin
      have pl := hx.pl
      rw [hp] at pin pl
      have h1 := oneIf_le ps
      have h2 := hx.seen
      refine h.upd rfl ⟨?_, ?_, ?_, u.kl, u.kin, ?_, fun q hq => pin q (List.mem_cons_of_mem _ hq), u.act⟩ ul ⟨by simp only; omega, by simp⟩ ⟨by simp, by simp; omega⟩
      · simp only; omega
      · simpa using hH
      · intro r hr
        simp at hr
        rw [hr]
        exact word_in hP p
      · simp at pl ⊢; omega
    | nil =>
      simp only
      cases hk2 : x.kept.getLast? with
      | some b =>
        have hb := hx.kin b (List.mem_of_getLast? hk2)
        have hd : WB P k (M + 70000) M H { x with kept := x.kept.dropLast } := ⟨hx.seen, hx.hl, hx.hin, by have := hx.kl; simp; omega, fun c hc => hx.kin c ((List.dropLast_sublist _).subset hc), hx.pl, hx.pin, hx.act⟩
        have hsc := scan_ok hd hm hb
        rw [show M + 70000 + 1 = M + 1 + 70000 by omega] at hsc
        simp only [hh, hp] at hsc
        exact h.upd rfl hsc ul ⟨by simp, by simp; omega⟩ ⟨by simp, by simp; omega⟩
      | none =>
        have s0 : Sm (M + 70000) 0 := by unfold Sm; omega
        exact take_ok hP h hk hx.chosen (by have := hP.n1; omega) (new_ob (by omega) _ s0) (cok_new _ _).1
theorem Bm.step (hP : BP P) (hH : 1 ≤ H) (h : Bm P H M S) (hk : k < P.n) : Bm P H (M + 1) (stepM P S k) := by
  have hm := h.m0
  have hx := h.w k hk
  have u := hx.up
  rw [show M + 70000 + 1 = M + 1 + 70000 by omega] at u
  have ul := h.l.up
  rw [show M + 70000 + 1 = M + 1 + 70000 by omega] at ul
  unfold stepM
  by_cases he : (S.X k).ended = true
  · rw [if_pos he]; exact h.up
  rw [if_neg he]
  have hact := hx.act (by simpa using he)
  cases ha : (S.X k).act with
  | choose => exact choose_ok hP hH h hk hx
  | mark b =>
    rw [ha] at hact
    have hb : BlkOk P b := hact
    simp only
    generalize Bt.markC P.hw.length S.sz b.t b.s = mc at *
    by_cases h1 : mc.1 = true
    · simp only [h1, if_true]
      refine h.upd rfl ⟨u.seen, u.hl, u.hin, u.kl, u.kin, u.pl, u.pin, fun _ => ⟨hb, ?_, (cok_new _ _).2.2, rfl⟩⟩ ul ⟨by simp, by simp; omega⟩ ⟨by simp, by simp; omega⟩
      exact new_ob (by omega) _ (by have := hb.t; unfold Sm; omega)
    · simp only [h1]
      exact h.upd rfl ⟨u.seen, u.hl, u.hin, u.kl, u.kin, u.pl, u.pin, fun _ => trivial⟩ ul ⟨by simp, by simp; omega⟩ ⟨by simp, by simp; omega⟩
  | push b o =>
    rw [ha] at hact
    obtain ⟨hb, ho, hc, hd⟩ := hact
    simp only
    obtain ⟨s1, s2⟩ := op_step (C := P.dq k 0) (Z := M + 70000) (by omega) (by rw [dq_over]; exact hP.ov) h.l ho hc
    have s3 := cnt_own (P.dq k 0) S.l o hc
    rw [show M + 70000 + 1 = M + 1 + 70000 by omega] at s1 s2
    generalize (stepOf (P.dq k 0) S.l o).1 = l' at *
    generalize (stepOf (P.dq k 0) S.l o).2 = o' at *
    refine h.upd rfl ?_ s1 ⟨by simp, by simp; omega⟩ ⟨by simp only; omega, by simp⟩
    unfold pushedW
    by_cases h1 : o'.done = true
    · rw [if_pos h1]
      by_cases h2 : (valOf o').2 = 0
      · rw [if_pos h2]
        exact ⟨u.seen, u.hl, u.hin, u.kl, u.kin, u.pl, u.pin, fun _ => trivial⟩
      · rw [if_neg h2]
        refine ⟨u.seen, u.hl, u.hin, ?_, ?_, u.pl, u.pin, fun _ => trivial⟩
        · have := hx.kl; simp; omega
        · intro c hc2
          rcases List.mem_append.1 hc2 with h3 | h3
          · exact hx.kin c h3
          · simp at h3; rw [h3]; exact hb
    · rw [if_neg h1]
      exact ⟨u.seen, u.hl, u.hin, u.kl, u.kin, u.pl, u.pin, fun _ => ⟨hb, s2, s3, by simpa using h1⟩⟩
  | take a o =>
    rw [ha] at hact
    obtain ⟨h1, h2, h3, h4⟩ := hact
    exact take_ok hP h hk hx.chosen h1 h2 h3
  | open_ v =>
    rw [ha] at hact
    simp only
    have a := acc_le P v
    cases ho : P.obj v with
    | none => exact h.upd rfl ⟨u.seen, u.hl, u.hin, u.kl, u.kin, u.pl, u.pin, fun _ => trivial⟩ ul ⟨by simp only; omega, by simp only; omega⟩ ⟨by simp, by simp; omega⟩
    | some b =>
      have hsc := scan_ok hx hm (obj_ok hP.hl ho).1
      rw [show M + 70000 + 1 = M + 1 + 70000 by omega] at hsc
      exact h.upd rfl hsc ul ⟨by simp only; omega, by simp only; omega⟩ ⟨by simp, by simp; omega⟩
  | end_ o =>
    rw [ha] at hact
    obtain ⟨h1, h2⟩ := hact
    simp only
    have s1 := of_step (Q := P.Q k) (o := o) (Z := M + 70000) (by omega) h.l
    rw [show M + 70000 + 1 = M + 1 + 70000 by omega] at s1
    have s2 := qok_step (l := S.l) h1 h2
    have s3 : (stepQ (P.Q k) S.l o).2.state = 0 ∨ (stepQ (P.Q k) S.l o).2.state = 1 ∨ (stepQ (P.Q k) S.l o).2.state = 2 := by
      unfold stepQ
      rw [if_pos h2]
      cases o.at_ <;> simp only <;> (try split) <;> first | (left; exact h2) | (right; left; rfl) | (right; right; rfl) | omega | simp
    generalize (stepQ (P.Q k) S.l o).1 = l' at *
    generalize (stepQ (P.Q k) S.l o).2 = o' at *
    refine h.upd rfl ?_ s1 ⟨by simp, by simp; omega⟩ ⟨by simp only; omega, by simp⟩
    unfold endedW
    by_cases e2 : o'.state = 2
    · rw [if_pos e2]
      exact ⟨u.seen, u.hl, u.hin, u.kl, u.kin, u.pl, u.pin, fun e => by simp at e⟩
    · rw [if_neg e2]
      by_cases e1 : o'.state = 1
      · rw [if_pos e1]
        exact ⟨u.seen, u.hl, u.hin, u.kl, u.kin, u.pl, u.pin, fun _ => trivial⟩
      · rw [if_neg e1]
        exact ⟨u.seen, u.hl, u.hin, u.kl, u.kin, u.pl, u.pin, fun _ => ⟨s2, by omega⟩⟩
theorem fit_of {C : Cfg} {l : List Int} {o : OpS} {Z : Int} (h0 : 0 ≤ Z) (hl : LB Z l) (ho : OB Z o) (hc : CntOk C o) (hZ : Z ≤ 1000000) : Fit C l o 1000000 := by
  have r0 : Sm Z (rd C l 0) := hl.get h0 _
  have r1 : Sm Z (rd C l 1) := hl.get h0 _
  have o1 := ho.1
  have o2 := ho.2.1
  unfold Sm at *
  exact ⟨by omega, by omega, by omega, by omega, hc⟩
/-- Each step may be done. -/
theorem Bm.may (hP : BP P) (h : Bm P H M S) (hM : M ≤ 900000) (hH : H ≤ 1000000) (hk : k < P.n) : MayM P S k := by
  intro he
  have hm := h.m0
  have hx := h.w k hk
  have h1 := hx.act he
  have h2 := h.hs
  have h3 := h.cs
  have h4 := hx.seen
  have h5 := hx.hl
  have h6 := hx.kl
  have h7 := hx.pl
  refine ⟨by omega, by omega, by omega, by omega, by omega, by omega, ?_⟩
  cases ha : (S.X k).act with
  | choose =>
    simp only
    cases hh : (S.X k).hands with
    | cons r hs => exact hx.hin r (by rw [hh]; simp)
    | nil =>
      simp only
      cases hp : (S.X k).places with
      | cons p ps => exact hx.pin p (by rw [hp]; simp)
      | nil =>
        simp only
        cases hk2 : (S.X k).kept.getLast? with
        | some b =>
          have hb := hx.kin b (List.mem_of_getLast? hk2)
          exact ⟨hb.n, hb.t⟩
        | none => exact fit_of (Z := M + 70000) (by omega) h.l (new_ob (by omega) _ (by unfold Sm; omega)) (cok_new _ _).1 (by omega)
  | mark b => rw [ha] at h1; exact BlkOk.s h1
  | push b o => rw [ha] at h1; exact ⟨fit_of (Z := M + 70000) (by omega) h.l h1.2.1 h1.2.2.1 (by omega), h1.2.2.2⟩
  | take a o => rw [ha] at h1; exact ⟨h1.1, fit_of (Z := M + 70000) (by omega) h.l h1.2.1 h1.2.2.1 (by omega), h1.2.2.2⟩
  | open_ v =>
    rw [ha] at h1
    have h8 : Sm (M + 70000) v := h1
    unfold Sm at h8
    show In64 v
    unfold In64
    omega
  | end_ o =>
    rw [ha] at h1
    have c0 : Sm (M + 70000) (cnt (P.Q k) S.l) := h.l.get (by omega) _
    unfold Sm at c0
    exact ⟨by omega, h1.1, h1.2⟩
end

/-- Marks from one place to another. -/
def marksTo (sz : Nat → Nat) (m : Nat) : Nat := Bt.cnt (Bt.begs sz) m
theorem marks_upd {sz : Nat → Nat} {a z : Nat} (h0 : sz a = 0) (hz : 0 < z) : ∀ m, a < m → marksTo (Bt.upd sz a z) m = marksTo sz m + 1 := by
  intro m
  unfold marksTo
  induction m with
  | zero => intro h; omega
  | succ m ih =>
    intro h
    rw [Bt.cnt, Bt.cnt]
    by_cases e : a = m
    · subst e
      have e1 : Bt.cnt (Bt.begs (Bt.upd sz a z)) a = Bt.cnt (Bt.begs sz) a := Bt.cnt_congr fun j hj => by
        unfold Bt.begs Bt.upd
        rw [if_neg (by omega)]
      have e2 : Bt.begs (Bt.upd sz a z) a = true := by unfold Bt.begs Bt.upd; rw [if_pos rfl]; exact decide_eq_true hz
      have e3 : Bt.begs sz a = false := by unfold Bt.begs; rw [h0]; rfl
      rw [e1, e2, e3]
      simp
    · have e2 : Bt.begs (Bt.upd sz a z) m = Bt.begs sz m := by unfold Bt.begs Bt.upd; rw [if_neg (by omega)]
      rw [ih (by omega), e2]
      omega
/-- A step has one access or one mark at most; one who has ended has none. -/
theorem step_one (P : MP) (S : MS) (k : Nat) : ∃ a b : Int, ∃ c : Nat, (stepM P S k).hs = S.hs + a ∧ (stepM P S k).cs = S.cs + b ∧ marksTo (stepM P S k).sz P.hw.length = marksTo S.sz P.hw.length + c ∧ 0 ≤ a ∧ 0 ≤ b ∧ a + b + c ≤ 1 := by
  unfold stepM
  by_cases he : (S.X k).ended = true
  · rw [if_pos he]; exact ⟨0, 0, 0, by omega, by omega, by omega, by omega, by omega, by omega⟩
  rw [if_neg he]
  cases ha : (S.X k).act with
  | choose =>
    simp only
    unfold chooseM
    split
    · rename_i r hs _
      have a := acc_le P r
      split
      · exact ⟨0, 0, 0, by simp, by simp, by simp, by omega, by omega, by omega⟩
      · split
        · exact ⟨P.acc r, 0, 0, by simp, by simp, by simp, by omega, by omega, by omega⟩
        · exact ⟨P.acc r, 0, 0, by simp, by simp, by simp, by omega, by omega, by omega⟩
    · split
      · exact ⟨1, 0, 0, by simp, by simp, by simp, by omega, by omega, by omega⟩
      · split
        · exact ⟨0, 0, 0, by simp, by simp, by simp, by omega, by omega, by omega⟩
        · unfold takeM; exact ⟨0, 1, 0, by simp, by simp, by simp, by omega, by omega, by omega⟩
  | mark b =>
    simp only
    unfold Bt.markC
    by_cases h1 : ¬ (0 ≤ b.t ∧ b.t < P.hw.length)
    · simp only [if_pos h1]; exact ⟨0, 0, 0, by simp, by simp, by simp, by omega, by omega, by omega⟩
    · simp only [if_neg h1]
      by_cases h2 : b.s < 1 ∨ P.hw.length - b.t < b.s
      · simp only [if_pos h2]; exact ⟨0, 0, 0, by simp, by simp, by simp, by omega, by omega, by omega⟩
      · simp only [if_neg h2]
        by_cases h3 : 0 < S.sz b.t.toNat
        · simp only [if_pos h3]; exact ⟨0, 0, 0, by simp, by simp, by simp, by omega, by omega, by omega⟩
        · simp only [if_neg h3]
          by_cases h4 : Bt.freeC S.sz b.t.toNat b.s.toNat = true
          · simp only [if_pos h4]
            exact ⟨0, 0, 1, by simp, by simp, marks_upd (by omega) (by omega) _ (by omega), by omega, by omega, by omega⟩
          · simp only [if_neg h4]; exact ⟨0, 0, 0, by simp, by simp, by simp, by omega, by omega, by omega⟩
  | push b o => exact ⟨0, 1, 0, by simp, by simp, by simp, by omega, by omega, by omega⟩
  | take a o => unfold takeM; exact ⟨0, 1, 0, by simp, by simp, by simp, by omega, by omega, by omega⟩
  | open_ v =>
    have a := acc_le P v
    simp only
    split
    · exact ⟨P.acc v, 0, 0, by simp, by simp, by simp, by omega, by omega, by omega⟩
    · exact ⟨P.acc v, 0, 0, by simp, by simp, by simp, by omega, by omega, by omega⟩
  | end_ o => exact ⟨0, 1, 0, by simp, by simp, by simp, by omega, by omega, by omega⟩
theorem step_ended (P : MP) (S : MS) (k : Nat) (h : (S.X k).ended = true) : stepM P S k = S := by unfold stepM; rw [if_pos h]
/-- A new marker, with roots. -/
theorem fresh_bm (P : MP) (l : List Int) (sz : Nat → Nat) (hl : ∀ x, x ∈ l → x = 0) : Bm P 0 0 (MS.fresh l sz 0 0) := by
  refine ⟨by omega, ⟨by simp [MS.fresh], by simp [MS.fresh]⟩, ⟨by simp [MS.fresh], by simp [MS.fresh]⟩, fun x hx => ?_, fun k hk => ?_⟩
  · rw [hl x hx]; unfold Sm; omega
  · unfold MS.fresh
    exact ⟨by simp, by simp, by simp, by simp, by simp, by simp, by simp, fun _ => trivial⟩
theorem root_bm {P : MP} {H : Nat} {M : Int} {S : MS} (h : Bm P H M S) (r : Nat) (y : Int) (hy : In64 y) (hn : 1 ≤ P.n) : Bm P (H + 1) M (rootM P.n S r y) := by
  refine ⟨h.m0, h.hs, h.cs, h.l, fun k hk => ?_⟩
  have up : ∀ j, j < P.n → WB P j (M + 70000) M (H + 1) (S.X j) := fun j hj => by
    have w := h.w j hj
    exact ⟨w.seen, Nat.le_succ_of_le w.hl, w.hin, w.kl, w.kin, w.pl, w.pin, w.act⟩
  unfold rootM
  simp only
  by_cases e : k = r % P.n
  · rw [e, updM_at]
    have hr : r % P.n < P.n := Nat.mod_lt _ (by omega)
    have w := h.w (r % P.n) hr
    refine ⟨w.seen, by have := w.hl; simp; omega, fun z hz => ?_, w.kl, w.kin, w.pl, w.pin, w.act⟩
    rcases List.mem_append.1 hz with h1 | h1
    · exact w.hin z h1
    · simp at h1; rw [h1]; exact hy
  · rw [updM_ne _ _ e]
    exact up k hk
theorem roots_bm {P : MP} (hn : 1 ≤ P.n) : ∀ (T : List Int) {H : Nat} {M : Int} {S : MS} (r : Nat), Bm P H M S → (∀ y, y ∈ T → In64 y) → Bm P (H + T.length) M (rootsM P.n S r T)
  | [], H, M, S, r, h, _ => h
  | y :: T, H, M, S, r, h, hT => by
    have h1 := root_bm h r y (hT y (by simp)) hn
    have h2 := roots_bm hn T (r + 1) h1 (fun z hz => hT z (by simp [hz]))
    rw [List.length_cons, show H + (T.length + 1) = H + 1 + T.length by omega]
    exact h2
end Go.Proofs.YtgbclfhgpkmcnaaGreatDoor

/-
  What lies in the marker's deques by any weight, and what is left to do ('eM'): each step leaves less, or is a quiet one ('QsM'). No Go is walked here.
-/
namespace Go.Proofs.YtgbclfhgpkmcnaaGreatDoor
set_option linter.unusedVariables false
set_option linter.unusedSimpArgs false

/-- What lies in deque j, by a weight; what an operation has on its way. -/
def hasY (f : Int → Int) (P : MP) (l : List Int) (Y : Nat → VA) (j : Nat) : Int := worth f (P.cfg j) (viewOf (P.cfg j) l) (bot (viewOf (P.cfg j) l) (partY Y j none))
def wayV (f : Int → Int) : VA → Int
  | .push o => way true f o
  | .pop o => way false f o
  | .steal _ o => way false f o
  | _ => 0
def totY (f : Int → Int) (P : MP) (l : List Int) (Y : Nat → VA) : Int := sumTo (hasY f P l Y) P.n
section
variable {P : MP} {l : List Int} {Y : Nat → VA} {k : Nat} {f : Int → Int}
theorem hasY_act (hM : MOk P l) (h : Wells P l Y) {v : VA} (hv : Y k = v) (ho : OpI P k v) :
    (∀ j, j < P.n → j ≠ dqV k v → hasY f P (actL P l k v) (updY Y k (withV v (actO P l k v))) j = hasY f P l Y j) ∧
    hasY f P (actL P l k v) (updY Y k (withV v (actO P l k v))) (dqV k v) + wayV f (withV v (actO P l k v)) = hasY f P l Y (dqV k v) + wayV f v := by
  constructor
  · intro j hj hji
    unfold hasY
    rw [act_far hM ho hji, part_far hv ho.op _ hji]
  · obtain ⟨v1, v2⟩ := act_view hM ho
    have hD := h _ ho.dq
    have hp := part_role hv ho.op ho.st
    have hw := part_with hv ho.op ho.st (actO P l k v)
    have hki := ho.kind
    unfold hasY
    rw [hw, v1, v2]
    cases hvv : v with
    | loc => rw [hvv] at ho; cases ho.op
    | offer o => rw [hvv] at ho; cases ho.op
    | push o =>
      rw [hvv] at hD hp hki
      simp only [dqV, roleV, opV, pushB] at hD hp hki ⊢
      have := hD.worth_own f true (by rw [hp]; exact hki)
      rw [hp] at this
      rw [updP_at, hp]
      exact this
    | pop o =>
      rw [hvv] at hD hp hki
      simp only [dqV, roleV, opV, pushB] at hD hp hki ⊢
      have := hD.worth_own f false (by rw [hp]; exact hki)
      rw [hp] at this
      rw [updP_at, hp]
      exact this
    | steal j o =>
      rw [hvv] at hD hp hki
      simp only [dqV, roleV, opV, pushB] at hD hp hki ⊢
      have := hD.worth_thief f k (by rw [hp]; exact hki)
      rw [hp] at this
      rw [updP_ne _ _ (by simp)]
      exact this
theorem hasY_set (u : VA) (h1 : ∀ v, bot v (ownV (Y k)) = v.B) (h2 : ∀ v, bot v (ownV u) = v.B) (j : Nat) : hasY f P l (updY Y k u) j = hasY f P l Y j := by
  unfold hasY
  by_cases e : j = k
  · subst e
    simp only [partY, updY_at, h1, h2]
  · simp only [partY, updY_ne _ _ e]
theorem totY_set (u : VA) (h1 : ∀ v, bot v (ownV (Y k)) = v.B) (h2 : ∀ v, bot v (ownV u) = v.B) : totY f P l (updY Y k u) = totY f P l Y := sumTo_congr (fun j _ => hasY_set u h1 h2 j)
theorem totY_mid (hM : MOk P l) (h : Wells P l Y) {v : VA} (hv : Y k = v) (ho : OpI P k v) : totY f P (actL P l k v) (updY Y k (withV v (actO P l k v))) = totY f P l Y + wayV f v - wayV f (withV v (actO P l k v)) := by
  obtain ⟨a1, a2⟩ := hasY_act (f := f) hM h hv ho
  unfold totY
  rw [sumTo_upd (g := hasY f P l Y) ho.dq (fun j hj hji => a1 j hj hji)]
  omega
theorem bot_begins {u : VA} (h : Begins none (ownV u)) (v : DV) : bot v (ownV u) = v.B := by
  rcases h with h | ⟨st, z, e, h⟩
  · exact bot_done h v
  · rw [e]
    rcases h with ⟨_, rfl | rfl⟩ | ⟨h, _⟩
    · rfl
    · rfl
    · exact absurd rfl h
theorem totY_fin (hM : MOk P l) (h : Wells P l Y) {v : VA} (hv : Y k = v) (ho : OpI P k v) (hd : (actO P l k v).done = true) {u : VA} (hu : Begins none (ownV u)) : totY f P (actL P l k v) (updY Y k u) = totY f P l Y + wayV f v - wayV f (withV v (actO P l k v)) := by
  rw [← totY_mid hM h hv ho, ← updY_twice Y k (withV v (actO P l k v)) u]
  refine totY_set u (fun v' => bot_done ?_ v') (fun v' => bot_begins hu v')
  rw [updY_at]
  have := ho.op
  cases v with
  | loc => cases this
  | offer o => cases this
  | push o => exact hd
  | pop o => exact hd
  | steal j o => rfl
theorem totY_off (o : OfS) {u : VA} (h1 : ∀ v, bot v (ownV (Y k)) = v.B) (h2 : ∀ v, bot v (ownV u) = v.B) : totY f P (stepQ (P.Q k) l o).1 (updY Y k u) = totY f P l Y := by
  rw [totY_set u h1 h2]
  unfold totY
  exact sumTo_congr (fun j _ => by unfold hasY; rw [view_off])
theorem worth_nn (hf : ∀ x, 0 ≤ f x) (C : Cfg) (v : DV) (b : Int) : 0 ≤ worth f C v b := by
  unfold worth ringW stackW
  have a := sumTo_nn (n := (b - v.T).toNat) (g := fun i => f (v.s (spot C.cap (v.T + (i : Int))))) (fun _ _ => hf _)
  have c := sumTo_nn (n := v.N.toNat) (g := fun i => f (v.k i)) (fun _ _ => hf _)
  omega
theorem totY_nn (hf : ∀ x, 0 ≤ f x) : 0 ≤ totY f P l Y := sumTo_nn (fun j _ => worth_nn hf _ _ _)
end

/-- A potential: what each worker has by g, and all deques by f. -/
def phi (g : MW → Int) (f : Int → Int) (P : MP) (S : MS) : Int := sumTo (fun k => g (S.X k)) P.n + totY f P S.l (yM P S.X)
section
variable {P : MP} {S : MS} {k : Nat} {g : MW → Int} {f : Int → Int}
theorem sum_updM (hk : k < P.n) (g : MW → Int) (X : Nat → MW) (x : MW) : sumTo (fun j => g (updM X k x j)) P.n = sumTo (fun j => g (X j)) P.n + g x - g (X k) := by
  rw [sumTo_upd (g := fun j => g (X j)) hk (fun j hj hjk => by simp only [updM_ne _ _ hjk])]
  simp only [updM_at]
theorem phi_loc (hk : k < P.n) (h1 : ∀ v, bot v (ownV (vaM P k (S.X k))) = v.B) {S' : MS} {x : MW} (hX : S'.X = updM S.X k x) (hL : S'.l = S.l) (h2 : ∀ v, bot v (ownV (vaM P k x)) = v.B) : phi g f P S' = phi g f P S + g x - g (S.X k) := by
  unfold phi
  rw [hX, hL, yM_upd, sum_updM hk, totY_set _ h1 h2]
  omega
theorem phi_op (h : AllM P S) (hk : k < P.n) (ho : IsOp (vaM P k (S.X k))) {S' : MS} {x : MW} (hX : S'.X = updM S.X k x) (hL : S'.l = actL P S.l k (vaM P k (S.X k)))
    (hx : ((actO P S.l k (vaM P k (S.X k))).done = false ∧ vaM P k x = withV (vaM P k (S.X k)) (actO P S.l k (vaM P k (S.X k)))) ∨ ((actO P S.l k (vaM P k (S.X k))).done = true ∧ Begins none (ownV (vaM P k x)))) :
    phi g f P S' = phi g f P S + g x - g (S.X k) + wayV f (vaM P k (S.X k)) - wayV f (withV (vaM P k (S.X k)) (actO P S.l k (vaM P k (S.X k)))) := by
  have hO : OpI P k (vaM P k (S.X k)) := (h.v.sh k hk).op ho
  unfold phi
  rw [hX, hL, yM_upd, sum_updM hk]
  rcases hx with ⟨_, e⟩ | ⟨hd, hb⟩
  · rw [e, totY_mid (Y := yM P S.X) (v := vaM P k (S.X k)) h.v.ok h.v.wells rfl hO]; omega
  · rw [totY_fin (Y := yM P S.X) (v := vaM P k (S.X k)) h.v.ok h.v.wells rfl hO hd hb]; omega
theorem phi_off (hk : k < P.n) (o : OfS) (h1 : ∀ v, bot v (ownV (vaM P k (S.X k))) = v.B) {S' : MS} {x : MW} (hX : S'.X = updM S.X k x) (hL : S'.l = (stepQ (P.Q k) S.l o).1) (h2 : ∀ v, bot v (ownV (vaM P k x)) = v.B) : phi g f P S' = phi g f P S + g x - g (S.X k) := by
  unfold phi
  rw [hX, hL, yM_upd, sum_updM hk, totY_off o h1 h2]
  omega
end

/-- How many references an object has. -/
def plM (P : MP) (v : Int) : Int := match P.obj v with
  | some b => ((P.places b).length : Int)
  | none => 0
theorem plM_nn (P : MP) (v : Int) : 0 ≤ plM P v := by
  unfold plM
  split
  · exact Int.natCast_nonneg _
  · exact Int.le_refl _
theorem plM_obj {P : MP} {v : Int} {b : Blk} (h : P.obj v = some b) : plM P v = ((P.places b).length : Int) := by unfold plM; rw [h]
def fE (P : MP) (v : Int) : Int := 2 + 3 * plM P v
theorem fE_nn (P : MP) (v : Int) : 0 ≤ fE P v := by have := plM_nn P v; unfold fE; omega
def actE (P : MP) : MAct → Int
  | .choose => 0
  | .mark _ => 1
  | .push b o => 3 + 3 * plM P b.t + way true (fE P) o
  | .take _ o => way false (fE P) o
  | .open_ v => 1 + 3 * plM P v
  | .end_ _ => 0
def keptE (P : MP) (l : List Blk) : Int := (l.map fun b => 2 + 3 * ((P.places b).length : Int)).sum
def gE (P : MP) (x : MW) : Int := 2 * (x.hands.length : Int) + keptE P x.kept + 3 * (x.places.length : Int) + actE P x.act
/-- What is left to do. -/
noncomputable def eM (P : MP) (S : MS) : Int := 3 * ((P.hw.length : Int) - (Bt.tot S.sz P.hw.length : Nat)) + phi (gE P) (fE P) P S
/-- A quiet step: nothing comes of it. -/
def QsM (P : MP) (S : MS) (k : Nat) : Prop :=
  (S.X k).ended = true ∨ (∃ o, (S.X k).act = .end_ o) ∨ (∃ b o, (S.X k).act = .push b o ∧ (stepOf (P.dq k 0) S.l o).2.done = false) ∨
  (∃ a o, (S.X k).act = .take a o ∧ ((stepOf (P.dq k a) S.l o).2.done = false ∨ (stepOf (P.dq k a) S.l o).2.errno ≠ 0)) ∨
  ((S.X k).act = .choose ∧ (S.X k).hands = [] ∧ (S.X k).places = [] ∧ (S.X k).kept = [])
theorem keptE_nn (P : MP) (l : List Blk) : 0 ≤ keptE P l := by
  unfold keptE
  induction l with
  | nil => exact Int.le_refl _
  | cons b l ih => rw [List.map_cons, List.sum_cons]; omega
theorem keptE_app (P : MP) (l : List Blk) (b : Blk) : keptE P (l ++ [b]) = keptE P l + (2 + 3 * ((P.places b).length : Int)) := by
  unfold keptE; rw [List.map_append, List.sum_append]; simp
theorem keptE_last (P : MP) {l : List Blk} {b : Blk} (h : l.getLast? = some b) : keptE P l = keptE P l.dropLast + (2 + 3 * ((P.places b).length : Int)) := by
  obtain ⟨ys, rfl⟩ := List.getLast?_eq_some_iff.1 h
  rw [List.dropLast_concat]
  exact keptE_app P _ b
theorem plM_size {P : MP} {r : Int} {b : Blk} (h : P.obj r = some b) : ((P.places b).length : Int) + 1 ≤ b.s ∧ b.t = r := by
  obtain ⟨h1, h2⟩ := obj_some h
  obtain ⟨a1, a2, a3, a4, a5, a6, a7, x, a8, a9, a10, a11⟩ := readOf_some h1
  have h3 := refs_in a6
  have h4 := refsOf_range P.cl b.k b.n
  refine ⟨?_, a1⟩
  unfold MP.places
  rw [List.length_map, rowTo_length]
  omega

section
variable {P : MP} {S : MS} {k : Nat}
theorem way_doneE {f : Int → Int} {o : OpS} (hd : o.done = true) (he : o.errno ≠ 0) (p : Bool) : way p f o = 0 := by
  unfold way
  cases p <;> simp [hd, he]
theorem way_done0 {f : Int → Int} {o : OpS} (hd : o.done = true) (he : o.errno = 0) : way true f o = - f o.item ∧ way false f o = f o.item := by
  unfold way
  simp [hd, he]
theorem bot_va {x : MW} (h : ∀ b o, x.act ≠ .push b o) (h2 : ∀ o, x.act ≠ .take 0 o) (v : DV) : bot v (ownV (vaM P k x)) = v.B := by
  unfold vaM
  cases ha : x.act with
  | choose => rfl
  | mark b => rfl
  | push b o => exact absurd ha (h b o)
  | take a o =>
    simp only
    by_cases h0 : a = 0
    · subst h0; exact absurd ha (h2 o)
    · rw [if_neg h0]; rfl
  | open_ v => rfl
  | end_ o => rfl
theorem bot_new (v : DV) : bot v (opNew .popReadBottom 0) = v.B ∧ ∀ y, bot v (opNew .pushReadBottom y) = v.B := ⟨rfl, fun _ => rfl⟩
/-- A take's step. -/
theorem e_take (h : AllM P S) (hk : k < P.n) {a : Nat} {o : OpS} (ha : (S.X k).act = .take a o) :
    (((stepOf (P.dq k a) S.l o).2.done = false ∨ (stepOf (P.dq k a) S.l o).2.errno ≠ 0) → eM P (takeM P S k (S.X k) a o) = eM P S) ∧
    ((stepOf (P.dq k a) S.l o).2.done = true → (stepOf (P.dq k a) S.l o).2.errno = 0 → eM P (takeM P S k (S.X k) a o) + 1 = eM P S) := by
  obtain ⟨i1, i2, i3, i4, i5⟩ := va_take hk ha
  obtain ⟨han, hn⟩ := (h.w k hk).take a o ha
  have el : actL P S.l k (vaM P k (S.X k)) = (stepOf (P.dq k a) S.l o).1 := by unfold actL; rw [i2, i3]
  have eo : actO P S.l k (vaM P k (S.X k)) = (stepOf (P.dq k a) S.l o).2 := by unfold actO; rw [i2, i3]
  have w1 : wayV (fE P) (vaM P k (S.X k)) = way false (fE P) o := by
    unfold vaM; rw [ha]; simp only
    split <;> rfl
  have w2 : wayV (fE P) (withV (vaM P k (S.X k)) (stepOf (P.dq k a) S.l o).2) = way false (fE P) (stepOf (P.dq k a) S.l o).2 := by
    unfold vaM; rw [ha]; simp only
    split <;> rfl
  have hphi := fun (x : MW) (hx : _) => phi_op (g := gE P) (f := fE P) h hk i1 (S' := { S with l := (stepOf (P.dq k a) S.l o).1, X := updM S.X k x, cs := S.cs + 1 }) (x := x) rfl el.symm hx
  rw [eo, w1, w2] at hphi
  have g0 : gE P (S.X k) = way false (fE P) o := by unfold gE; rw [hn.1, hn.2.1, hn.2.2, ha]; simp [keptE, actE]
  have gx : ∀ A, gE P { S.X k with act := A } = actE P A := fun A => by unfold gE; simp only; rw [hn.1, hn.2.1, hn.2.2]; simp [keptE]
  unfold takeM eM
  simp only
  generalize hO : (stepOf (P.dq k a) S.l o).2 = o' at *
  by_cases hd : o'.done = true
  · obtain ⟨ve, vi⟩ := val_of hd
    have hask : ∀ c, c ≤ P.n → Begins none (ownV (vaM P k (askW P (S.X k) c))) ∧ gE P (askW P (S.X k) c) = 0 := fun c hc => by
      rcases ask_cases (k := k) P (S.X k) c hc hk with ⟨_, e1, e2⟩ | ⟨_, _, e1, e2⟩ | ⟨_, _, e1, e2⟩
      · rw [e2, e1, gx]; exact ⟨.inl rfl, rfl⟩
      · rw [e2, e1, gx]; exact ⟨(bg_pop (P := P) (l := S.l) hk).own, by simp [actE, way, opNew]⟩
      · rw [e2, e1, gx]; exact ⟨.inl rfl, by simp [actE, way, opNew]⟩
    unfold tookW
    rw [if_pos hd, ve]
    by_cases e0 : o'.errno = 0
    · refine ⟨fun q => ?_, fun _ _ => ?_⟩
      · rcases q with q | q
        · rw [hd] at q; cases q
        · exact absurd e0 q
      · rw [if_pos e0, hphi _ (.inr ⟨hd, .inl rfl⟩), gx, g0, (way_done0 hd e0).2, vi e0]
        simp only [actE, fE]
        omega
    · refine ⟨fun _ => ?_, fun _ q => absurd q e0⟩
      rw [if_neg e0]
      have hw := way_doneE (f := fE P) hd e0 false
      split
      · obtain ⟨b1, b2⟩ := hask a (by omega)
        rw [hphi _ (.inr ⟨hd, b1⟩), b2, g0, hw]; omega
      · obtain ⟨b1, b2⟩ := hask (a + 1) (by omega)
        rw [hphi _ (.inr ⟨hd, b1⟩), b2, g0, hw]; omega
  · have hd' : o'.done = false := by simpa using hd
    refine ⟨fun _ => ?_, fun q => absurd q hd⟩
    unfold tookW
    rw [if_neg hd, hphi _ (.inl ⟨hd', i5 o'⟩), gx, g0]
    simp only [actE]
    omega
theorem e_loc (hk : k < P.n) (h1 : ∀ v, bot v (ownV (vaM P k (S.X k))) = v.B) {S' : MS} (x : MW) (h2 : ∀ v, bot v (ownV (vaM P k x)) = v.B) (hX : S'.X = updM S.X k x) (hL : S'.l = S.l)
    (c : Int) (hs : 3 * (Bt.tot S.sz P.hw.length : Int) + c ≤ 3 * (Bt.tot S'.sz P.hw.length : Int)) (hg : gE P x + 1 ≤ gE P (S.X k) + c) : eM P S' + 1 ≤ eM P S := by
  unfold eM
  rw [phi_loc (g := gE P) (f := fE P) hk h1 hX hL h2]
  omega
theorem e_loc0 (hk : k < P.n) (h1 : ∀ v, bot v (ownV (vaM P k (S.X k))) = v.B) {S' : MS} (x : MW) (h2 : ∀ v, bot v (ownV (vaM P k x)) = v.B) (hX : S'.X = updM S.X k x) (hL : S'.l = S.l) (hs : S'.sz = S.sz) (hg : gE P x + 1 ≤ gE P (S.X k)) : eM P S' + 1 ≤ eM P S :=
  e_loc hk h1 x h2 hX hL 0 (by rw [hs]; omega) (by omega)
/-- Each step leaves less, or is quiet. -/
theorem e_step (h : AllM P S) (hB : Bt.Bl P.hw.length S.sz) (hk : k < P.n) :
    (QsM P S k → eM P (stepM P S k) = eM P S) ∧ (¬ QsM P S k → eM P (stepM P S k) + 1 ≤ eM P S) ∧ Bt.Bl P.hw.length (stepM P S k).sz := by
  have hw := h.w k hk
  by_cases he : (S.X k).ended = true
  · have : stepM P S k = S := by unfold stepM; rw [if_pos he]
    rw [this]
    exact ⟨fun _ => rfl, fun q => absurd (.inl he) q, hB⟩
  have he' : (S.X k).ended = false := by simpa using he
  cases ha : (S.X k).act with
  | end_ o =>
    have e : stepM P S k = { S with l := (stepQ (P.Q k) S.l o).1, X := updM S.X k (endedW (S.X k) (stepQ (P.Q k) S.l o).2), cs := S.cs + 1 } := by unfold stepM; rw [if_neg he, ha]
    have hn := hw.offer o ha
    rw [e]
    refine ⟨fun _ => ?_, fun q => absurd (.inr (.inl ⟨o, ha⟩)) q, hB⟩
    have hx : ∀ o', gE P (endedW (S.X k) o') = 0 ∧ ∀ v, bot v (ownV (vaM P k (endedW (S.X k) o'))) = v.B := fun o' => by
      unfold endedW
      split
      · exact ⟨by unfold gE; simp only; rw [hn.1, hn.2.1, hn.2.2]; simp [keptE, actE], fun v => rfl⟩
      · split
        · exact ⟨by unfold gE; simp only; rw [hn.1, hn.2.1, hn.2.2]; simp [keptE, actE], fun v => rfl⟩
        · exact ⟨by unfold gE; simp only; rw [hn.1, hn.2.1, hn.2.2]; simp [keptE, actE], fun v => rfl⟩
    unfold eM
    rw [phi_off hk o (bot_va (by rw [ha]; intro b o g; cases g) (by rw [ha]; intro o g; cases g)) rfl rfl (hx _).2, (hx _).1, show gE P (S.X k) = 0 by unfold gE; rw [hn.1, hn.2.1, hn.2.2, ha]; simp [keptE, actE]]
    show 3 * _ + _ = 3 * _ + _
    simp only
    omega
  | take a o =>
    have e : stepM P S k = takeM P S k (S.X k) a o := by unfold stepM; rw [if_neg he, ha]
    rw [e]
    obtain ⟨t1, t2⟩ := e_take h hk ha
    refine ⟨fun q => t1 ?_, fun q => ?_, hB⟩
    · rcases q with q | ⟨o2, q⟩ | ⟨b, o2, q, _⟩ | ⟨a2, o2, q, q2⟩ | ⟨q, _⟩
      · exact absurd q he
      · rw [ha] at q; cases q
      · rw [ha] at q; cases q
      · rw [ha] at q; cases q; exact q2
      · rw [ha] at q; cases q
    · by_cases hd : (stepOf (P.dq k a) S.l o).2.done = true
      · by_cases h0 : (stepOf (P.dq k a) S.l o).2.errno = 0
        · have := t2 hd h0; omega
        · exact absurd (.inr (.inr (.inr (.inl ⟨a, o, ha, .inr h0⟩)))) q
      · exact absurd (.inr (.inr (.inr (.inl ⟨a, o, ha, .inl (by simpa using hd)⟩)))) q
  | push b o =>
    have e : stepM P S k = { S with l := (stepOf (P.dq k 0) S.l o).1, X := updM S.X k (pushedW (S.X k) b (stepOf (P.dq k 0) S.l o).2), cs := S.cs + 1 } := by unfold stepM; rw [if_neg he, ha]
    obtain ⟨hit, hob⟩ := hw.push b o ha
    obtain ⟨i1, i2, i3, i4, i5⟩ := va_push hk ha
    have hO : OpI P k (vaM P k (S.X k)) := (h.v.sh k hk).op i1
    have el : actL P S.l k (vaM P k (S.X k)) = (stepOf (P.dq k 0) S.l o).1 := by unfold actL; rw [i2, i3]
    have eo : actO P S.l k (vaM P k (S.X k)) = (stepOf (P.dq k 0) S.l o).2 := by unfold actO; rw [i2, i3]
    have w1 : wayV (fE P) (vaM P k (S.X k)) = way true (fE P) o := by unfold vaM; rw [ha]; rfl
    have w2 : wayV (fE P) (withV (vaM P k (S.X k)) (stepOf (P.dq k 0) S.l o).2) = way true (fE P) (stepOf (P.dq k 0) S.l o).2 := by unfold vaM; rw [ha]; rfl
    have hit2 : (stepOf (P.dq k 0) S.l o).2.item = b.t := by
      have := item_pushS (h.v.ok.room hO.dq) h.v.ok.cap hO.cnt (by rw [← i4]; exact hO.kind)
      rw [i2, i3] at this
      rw [this]; exact hit
    have hphi := fun (x : MW) (hx : _) => phi_op (g := gE P) (f := fE P) h hk i1 (S' := { S with l := (stepOf (P.dq k 0) S.l o).1, X := updM S.X k x, cs := S.cs + 1 }) (x := x) rfl el.symm hx
    rw [eo, w1, w2] at hphi
    have hpl := plM_obj hob
    rw [e]
    unfold eM
    simp only
    generalize hO' : (stepOf (P.dq k 0) S.l o).2 = o' at *
    by_cases hd : o'.done = true
    · refine ⟨fun q => ?_, fun _ => ?_, hB⟩
      · exfalso
        rcases q with q | ⟨o2, q⟩ | ⟨b2, o2, q, q2⟩ | ⟨a2, o2, q, q2⟩ | ⟨q, _⟩
        · exact absurd q he
        · rw [ha] at q; cases q
        · rw [ha] at q; cases q; rw [hO', hd] at q2; cases q2
        · rw [ha] at q; cases q
        · rw [ha] at q; cases q
      · obtain ⟨ve, vi⟩ := val_of hd
        unfold pushedW
        rw [if_pos hd, ve, hphi _ (.inr ⟨hd, .inl rfl⟩)]
        by_cases e0 : o'.errno = 0
        · rw [if_pos e0, (way_done0 hd e0).1, hit2]
          unfold gE
          simp only
          rw [ha]
          simp only [actE, fE]
          omega
        · rw [if_neg e0, way_doneE hd e0 true]
          unfold gE
          simp only
          rw [ha, keptE_app]
          simp only [actE]
          omega
    · have hd' : o'.done = false := by simpa using hd
      refine ⟨fun _ => ?_, fun q => absurd (.inr (.inr (.inl ⟨b, o, ha, by rw [hO']; exact hd'⟩))) q, hB⟩
      unfold pushedW
      rw [if_neg hd, hphi _ (.inl ⟨hd', i5 o'⟩)]
      unfold gE
      simp only
      rw [ha]
      simp only [actE]
      omega
  | mark b =>
    have hb := hw.mark b ha
    have hnq : ¬ QsM P S k := fun q => by
      rcases q with q | ⟨o2, q⟩ | ⟨b2, o2, q, q2⟩ | ⟨a2, o2, q, q2⟩ | ⟨q, _⟩
      · exact absurd q he
      · rw [ha] at q; cases q
      · rw [ha] at q; cases q
      · rw [ha] at q; cases q
      · rw [ha] at q; cases q
    have hbt : ∀ v, bot v (ownV (vaM P k (S.X k))) = v.B := bot_va (by rw [ha]; intro b o g; cases g) (by rw [ha]; intro o g; cases g)
    have hsum := Bt.mark_sum (n := P.hw.length) (S := S.sz) b.t b.s
    have hbl := Bt.markT_bl hB b.t b.s
    have hpl := plM_obj hb
    have e : stepM P S k = { S with sz := (Bt.markC P.hw.length S.sz b.t b.s).2.2, fault := if (Bt.markC P.hw.length S.sz b.t b.s).2.1 = 0 then S.fault else 13, X := updM S.X k (if (Bt.markC P.hw.length S.sz b.t b.s).1 then { S.X k with act := .push b (opNew .pushReadBottom b.t) } else { S.X k with act := .choose }) } := by unfold stepM; rw [if_neg he, ha]
    rw [e]
    have hB2 : Bt.Bl P.hw.length (Bt.markC P.hw.length S.sz b.t b.s).2.2 := by rw [Bt.markC_eq]; exact hbl
    refine ⟨fun q => absurd q hnq, fun _ => ?_, hB2⟩
    rw [Bt.markC_eq]
    obtain ⟨hsz, _⟩ := plM_size hb
    rcases hsum with ⟨f1, f2, f3, f4, f5, f6, f7, f8, f9⟩ | ⟨f1, f2⟩
    · have ht := Bt.tot_upd S.sz b.t.toNat b.s.toNat P.hw.length (by omega)
      have g1 : gE P { S.X k with act := .push b (opNew .pushReadBottom b.t) } + 1 = gE P (S.X k) + (3 + 3 * ((P.places b).length : Int)) := by
        unfold gE; simp only; rw [ha]; simp only [actE, hpl]; simp [way, opNew]; omega
      rw [f6] at ht
      rw [f1, if_pos rfl, f9]
      exact e_loc hk hbt { S.X k with act := .push b (opNew .pushReadBottom b.t) } (fun v => rfl) rfl rfl (3 * b.s) (by simp only; omega) (Int.le_trans (Int.le_of_eq g1) (by omega))
    · have g1 : gE P { S.X k with act := .choose } + 1 ≤ gE P (S.X k) := by
        unfold gE; simp only; rw [ha]; simp only [actE]; omega
      rw [f1, if_neg (by decide), f2]
      exact e_loc0 hk hbt { S.X k with act := .choose } (fun v => rfl) rfl rfl rfl g1
  | choose =>
    have e : stepM P S k = chooseM P S k (S.X k) := by unfold stepM; rw [if_neg he, ha]
    have hbt : ∀ v, bot v (ownV (vaM P k (S.X k))) = v.B := bot_va (by rw [ha]; intro b o g; cases g) (by rw [ha]; intro o g; cases g)
    rw [e]
    unfold chooseM
    cases hh : (S.X k).hands with
    | cons r hs =>
      simp only
      have hnq : ¬ QsM P S k := fun q => by
        rcases q with q | ⟨o2, q⟩ | ⟨b2, o2, q, q2⟩ | ⟨a2, o2, q, q2⟩ | ⟨_, q, _⟩
        · exact absurd q he
        · rw [ha] at q; cases q
        · rw [ha] at q; cases q
        · rw [ha] at q; cases q
        · rw [hh] at q; cases q
      have g0 : gE P (S.X k) = 2 * ((hs.length : Int) + 1) + keptE P (S.X k).kept + 3 * ((S.X k).places.length : Int) := by unfold gE; rw [hh, ha]; simp [actE]
      have g1 : gE P { S.X k with hands := hs } + 1 ≤ gE P (S.X k) := by rw [g0]; unfold gE; simp only; rw [ha]; simp only [actE]; omega
      have hb1 : ∀ v, bot v (ownV (vaM P k { S.X k with hands := hs })) = v.B := bot_va (by simp only; rw [ha]; intro b o g; cases g) (by simp only; rw [ha]; intro o g; cases g)
      by_cases h0 : r = 0
      · rw [if_pos h0]
        refine ⟨fun q => absurd q hnq, fun _ => ?_, hB⟩
        exact e_loc0 hk hbt { S.X k with hands := hs } hb1 rfl rfl rfl g1
      · rw [if_neg h0]
        cases ho : P.obj r with
        | none =>
          refine ⟨fun q => absurd q hnq, fun _ => ?_, hB⟩
          exact e_loc0 hk hbt { S.X k with hands := hs } hb1 rfl rfl rfl g1
        | some b =>
          refine ⟨fun q => absurd q hnq, fun _ => ?_, hB⟩
          have g2 : gE P { S.X k with hands := hs, act := .mark b } + 1 ≤ gE P (S.X k) := by rw [g0]; unfold gE; simp only [actE]; omega
          exact e_loc0 hk hbt { S.X k with hands := hs, act := .mark b } (fun v => rfl) rfl rfl rfl g2
    | nil =>
      simp only
      cases hp : (S.X k).places with
      | cons p ps =>
        have hnq : ¬ QsM P S k := fun q => by
          rcases q with q | ⟨o2, q⟩ | ⟨b2, o2, q, q2⟩ | ⟨a2, o2, q, q2⟩ | ⟨_, _, q, _⟩
          · exact absurd q he
          · rw [ha] at q; cases q
          · rw [ha] at q; cases q
          · rw [ha] at q; cases q
          · rw [hp] at q; cases q
        refine ⟨fun q => absurd q hnq, fun _ => ?_, hB⟩
        have g0 : gE P (S.X k) = keptE P (S.X k).kept + 3 * ((ps.length : Int) + 1) := by unfold gE; rw [hh, hp, ha]; simp [actE]
        have g1 : gE P { S.X k with hands := [P.word p], places := ps, seen := (S.X k).seen + oneIf ps } + 1 ≤ gE P (S.X k) := by
          rw [g0]; unfold gE; simp only; rw [ha]; simp [actE]; omega
        exact e_loc0 hk hbt { S.X k with hands := [P.word p], places := ps, seen := (S.X k).seen + oneIf ps } (bot_va (by simp only; rw [ha]; intro b o g; cases g) (by simp only; rw [ha]; intro o g; cases g)) rfl rfl rfl g1
      | nil =>
        simp only
        cases hq : (S.X k).kept.getLast? with
        | some b =>
          have hnq : ¬ QsM P S k := fun q => by
            rcases q with q | ⟨o2, q⟩ | ⟨b2, o2, q, q2⟩ | ⟨a2, o2, q, q2⟩ | ⟨_, _, _, q⟩
            · exact absurd q he
            · rw [ha] at q; cases q
            · rw [ha] at q; cases q
            · rw [ha] at q; cases q
            · rw [q] at hq; cases hq
          refine ⟨fun q => absurd q hnq, fun _ => ?_, hB⟩
          have hl := keptE_last P hq
          have g0 : gE P (S.X k) = keptE P (S.X k).kept := by unfold gE; rw [hh, hp, ha]; simp [actE]
          have g1 : gE P (scanW P { S.X k with hands := [], places := [], kept := (S.X k).kept.dropLast } b) + 1 ≤ gE P (S.X k) := by
            rw [g0, hl]; unfold gE scanW; simp [actE]; omega
          exact e_loc0 hk hbt (scanW P { S.X k with hands := [], places := [], kept := (S.X k).kept.dropLast } b) (fun v => rfl) rfl rfl rfl g1
        | none =>
          simp only
          have hkn : (S.X k).kept = [] := List.getLast?_eq_none_iff.1 hq
          have hqq : QsM P S k := .inr (.inr (.inr (.inr ⟨ha, hh, hp, hkn⟩)))
          refine ⟨fun _ => ?_, fun q => absurd hqq q, hB⟩
          have h1 := idle_pop h hk ha he' ⟨hh, hp, hkn⟩
          rw [take_pre P S k 0 (opNew .popReadBottom 0)]
          have h2 := (e_take h1 hk (a := 0) (o := opNew .popReadBottom 0) (by rw [pre_at]; rfl)).1 (.inl rfl)
          rw [h2]
          unfold eM
          have g1 : gE P (popX (S.X k)) = gE P (S.X k) := by unfold popX gE; simp only; rw [ha]; simp [actE, way, opNew]
          rw [phi_loc (g := gE P) (f := fE P) (S := S) (S' := preM S k) hk hbt (x := popX (S.X k)) rfl rfl (fun v => rfl), g1]
          show 3 * _ + _ = 3 * _ + _
          unfold preM
          simp only
          omega
  | open_ v =>
    have hnq : ¬ QsM P S k := fun q => by
      rcases q with q | ⟨o2, q⟩ | ⟨b2, o2, q, q2⟩ | ⟨a2, o2, q, q2⟩ | ⟨q, _⟩
      · exact absurd q he
      · rw [ha] at q; cases q
      · rw [ha] at q; cases q
      · rw [ha] at q; cases q
      · rw [ha] at q; cases q
    have hbt : ∀ v, bot v (ownV (vaM P k (S.X k))) = v.B := bot_va (by rw [ha]; intro b o g; cases g) (by rw [ha]; intro o g; cases g)
    have e : stepM P S k = (match P.obj v with
      | none => { S with X := updM S.X k { S.X k with act := .choose }, fault := 13, hs := S.hs + P.acc v }
      | some b => { S with X := updM S.X k (scanW P (S.X k) b), hs := S.hs + P.acc v }) := by unfold stepM; rw [if_neg he, ha]; rfl
    rw [e]
    have hnn := plM_nn P v
    cases ho : P.obj v with
    | none =>
      refine ⟨fun q => absurd q hnq, fun _ => ?_, hB⟩
      have g1 : gE P { S.X k with act := .choose } + 1 ≤ gE P (S.X k) := by unfold gE; simp only; rw [ha]; simp only [actE]; omega
      exact e_loc0 hk hbt { S.X k with act := .choose } (fun v => rfl) rfl rfl rfl g1
    | some b =>
      refine ⟨fun q => absurd q hnq, fun _ => ?_, hB⟩
      have hpl := plM_obj ho
      have hnp : 0 ≤ ((S.X k).places.length : Int) := Int.natCast_nonneg _
      have g1 : gE P (scanW P (S.X k) b) + 1 ≤ gE P (S.X k) := by unfold gE scanW; simp only; rw [ha]; simp only [actE]; omega
      exact e_loc0 hk hbt (scanW P (S.X k) b) (fun v => rfl) rfl rfl rfl g1
end
end Go.Proofs.YtgbclfhgpkmcnaaGreatDoor

/-
  The marker without memory: a worker that has something ('BusyM') goes on with each quiet step of its own, but where it waits for its deque's lock, which somebody else has then ('busy_moveM', 'lock_heldM'). No Go is walked here.
-/
namespace Go.Proofs.YtgbclfhgpkmcnaaGreatDoor
set_option linter.unusedVariables false
set_option linter.unusedSimpArgs false

def posM (x : MW) : Nat :=
  match x.act with
  | .push _ o => posO o.at_
  | .take _ o => posO o.at_
  | _ => 12
def atLockM (x : MW) : Prop := ∃ o, ((∃ b, x.act = .push b o) ∨ x.act = .take 0 o) ∧ (o.at_ = .pushLock ∨ o.at_ = .takeLock)
def oneM (_ : Int) : Int := 1
def hasSome (x : MW) : Prop := x.hands ≠ [] ∨ x.places ≠ [] ∨ x.kept ≠ [] ∨ (∃ b, x.act = .mark b) ∨ (∃ b o, x.act = .push b o) ∨ (∃ v, x.act = .open_ v)
/-- It has something, or its deque has. -/
def BusyM (P : MP) (S : MS) (W : Nat) : Prop := hasSome (S.X W) ∨ 0 < hasY oneM P S.l (yM P S.X) W

theorem empty_hasY {P : MP} {l : List Int} {Y : Nat → VA} {W : Nat} (f : Int → Int) (he : EmptyV (viewOf (P.cfg W) l)) (hd : (ownV (Y W)).done = true) : hasY f P l Y W = 0 := by
  unfold hasY
  rw [show partY Y W none = ownV (Y W) from rfl, bot_done hd]
  unfold worth ringW stackW
  rw [he.1, he.2]
  simp [sumTo]

section
variable {P : MP} {S : MS} {W : Nat}
theorem not_ended (h : AllM P S) {k : Nat} (hk : k < P.n) (ha : ∀ o, (S.X k).act ≠ .end_ o) : (S.X k).ended = false := by
  cases he : (S.X k).ended with
  | false => rfl
  | true =>
    obtain ⟨o, g, _⟩ := (h.w k hk).ended.1 he
    exact absurd g (ha o)
theorem busy_actM (h : AllM P S) (hW : W < P.n) (hb : BusyM P S W) :
    (S.X W).ended = false ∧ ((S.X W).act = .choose ∨ (∃ b, (S.X W).act = .mark b) ∨ (∃ v, (S.X W).act = .open_ v) ∨ (∃ b o, (S.X W).act = .push b o ∧ o.done = false ∧ ownerAt o.at_ = true) ∨ ∃ o, (S.X W).act = .take 0 o ∧ o.done = false ∧ ownerAt o.at_ = true) := by
  have hw := h.w W hW
  have hE := h.v.emp W hW
  have hs := h.v.sh W hW
  have hD := h.v.wells W hW
  have none_of : (∀ b, (S.X W).act ≠ .mark b) → (∀ b o, (S.X W).act ≠ .push b o) → (∀ v, (S.X W).act ≠ .open_ v) → ((S.X W).hands = [] ∧ (S.X W).places = [] ∧ (S.X W).kept = []) → ¬ hasSome (S.X W) := fun n1 n2 n3 ⟨e1, e2, e3⟩ g => by
    rcases g with g | g | g | ⟨b, g⟩ | ⟨b, o, g⟩ | ⟨v, g⟩
    · exact g e1
    · exact g e2
    · exact g e3
    · exact n1 b g
    · exact n2 b o g
    · exact n3 v g
  cases ha : (S.X W).act with
  | choose => exact ⟨not_ended h hW (by rw [ha]; intro o g; cases g), .inl rfl⟩
  | mark b => exact ⟨not_ended h hW (by rw [ha]; intro o g; cases g), .inr (.inl ⟨b, rfl⟩)⟩
  | open_ v => exact ⟨not_ended h hW (by rw [ha]; intro o g; cases g), .inr (.inr (.inl ⟨v, rfl⟩))⟩
  | push b o =>
    have hv : yM P S.X W = .push o := by unfold yM vaM; rw [ha]
    have hO : OpI P W (.push o) := (hv ▸ hs : ShV P W (.push o)).op trivial
    have hk := hD.kind
    rw [show partY (yM P S.X) W none = o by simp only [partY, hv, ownV]] at hk
    exact ⟨not_ended h hW (by rw [ha]; intro o g; cases g), .inr (.inr (.inr (.inl ⟨b, o, rfl, hO.dn, hk hO.dn⟩)))⟩
  | end_ o =>
    exfalso
    have hv : yM P S.X W = .offer o := by unfold yM vaM; rw [ha]
    have hE' : EmptyV (viewOf (P.cfg W) S.l) := (hv ▸ hE : EmpV P S.l W (.offer o))
    rcases hb with g | g
    · exact none_of (by rw [ha]; intro b g; cases g) (by rw [ha]; intro b o g; cases g) (by rw [ha]; intro b g; cases g) (hw.offer o ha) g
    · rw [empty_hasY _ hE' (by rw [hv]; rfl)] at g
      omega
  | take a o =>
    refine ⟨not_ended h hW (by rw [ha]; intro o g; cases g), .inr (.inr (.inr (.inr ?_)))⟩
    by_cases h0 : a = 0
    · subst h0
      have hv : yM P S.X W = .pop o := by unfold yM vaM; rw [ha]; rfl
      have hO : OpI P W (.pop o) := (hv ▸ hs : ShV P W (.pop o)).op trivial
      have hk := hD.kind
      rw [show partY (yM P S.X) W none = o by simp only [partY, hv, ownV]] at hk
      exact ⟨o, rfl, hO.dn, hk hO.dn⟩
    · exfalso
      have hv : yM P S.X W = .steal ((W + a) % P.n) o := by unfold yM vaM; rw [ha]; simp only; rw [if_neg h0]
      have hE' : EmptyV (viewOf (P.cfg W) S.l) := (hv ▸ hE : EmpV P S.l W (.steal ((W + a) % P.n) o))
      rcases hb with g | g
      · exact none_of (by rw [ha]; intro b g; cases g) (by rw [ha]; intro b o g; cases g) (by rw [ha]; intro b g; cases g) (hw.take a o ha).2 g
      · rw [empty_hasY _ hE' (by rw [hv]; rfl)] at g
        omega
theorem take_X (P : MP) (S : MS) (k a : Nat) (o : OpS) (x : MW) : (takeM P S k x a o).X k = tookW P x a (stepOf (P.dq k a) S.l o).2 := by
  unfold takeM
  exact updM_at _ _ _
theorem choose_none {k : Nat} {x : MW} (h1 : x.hands = []) (h2 : x.places = []) (h3 : x.kept = []) : chooseM P S k x = takeM P S k x 0 (opNew .popReadBottom 0) := by
  unfold chooseM
  rw [h1, h2, h3]
  rfl
theorem busy_moveM (h : AllM P S) (hW : W < P.n) (hb : BusyM P S W) (hb' : BusyM P (stepM P S W) W) (hq : QsM P S W) :
    posM ((stepM P S W).X W) < posM (S.X W) ∨ ((stepM P S W).X W = S.X W ∧ atLockM (S.X W) ∧ rd (P.cfg W) S.l 2 ≠ 0) := by
  obtain ⟨he, hact⟩ := busy_actM h hW hb
  have hact' := (busy_actM (h.step hW) hW hb').2
  have hne : ¬ (S.X W).ended = true := by simp [he]
  rcases hact with ha | ⟨b, ha⟩ | ⟨v, ha⟩ | ⟨b, o, ha, hd, ho⟩ | ⟨o, ha, hd, ho⟩
  · left
    rcases hq with q | ⟨o2, q⟩ | ⟨b2, o2, q, q2⟩ | ⟨a2, o2, q, q2⟩ | ⟨_, q1, q2, q3⟩
    · exact absurd q hne
    · rw [ha] at q; cases q
    · rw [ha] at q; cases q
    · rw [ha] at q; cases q
    have e : stepM P S W = takeM P S W (S.X W) 0 (opNew .popReadBottom 0) := by unfold stepM; rw [if_neg hne, ha]; exact choose_none q1 q2 q3
    rw [e, take_X]
    rw [show posM (S.X W) = 12 by unfold posM; rw [ha]]
    show posO .popBottom < 12
    decide
  · exfalso
    rcases hq with q | ⟨o2, q⟩ | ⟨b2, o2, q, q2⟩ | ⟨a2, o2, q, q2⟩ | ⟨q, _⟩
    · exact absurd q hne
    all_goals (rw [ha] at q; cases q)
  · exfalso
    rcases hq with q | ⟨o2, q⟩ | ⟨b2, o2, q, q2⟩ | ⟨a2, o2, q, q2⟩ | ⟨q, _⟩
    · exact absurd q hne
    all_goals (rw [ha] at q; cases q)
  · have e : (stepM P S W).X W = pushedW (S.X W) b (stepOf (P.dq W 0) S.l o).2 := by unfold stepM; rw [if_neg hne, ha]; exact updM_at _ _ _
    have hdn : (stepOf (P.dq W 0) S.l o).2.done = false := by
      rcases hq with q | ⟨o2, q⟩ | ⟨b2, o2, q, q2⟩ | ⟨a2, o2, q, q2⟩ | ⟨q, _⟩
      · exact absurd q hne
      · rw [ha] at q; cases q
      · rw [ha] at q; cases q; exact q2
      · rw [ha] at q; cases q
      · rw [ha] at q; cases q
    rw [e]
    unfold pushedW
    rw [if_neg (by rw [hdn]; decide)]
    rcases pos_step hd ho hdn with g | ⟨g1, g2, g3⟩
    · left
      show posO (stepOf (P.dq W 0) S.l o).2.at_ < _
      rw [show posM (S.X W) = posO o.at_ by unfold posM; rw [ha]]
      exact g
    · right
      refine ⟨?_, ⟨o, .inl ⟨b, ha⟩, g3⟩, by rw [← dq_zero hW]; exact g2⟩
      rw [g1, ← ha]
  · have e : (stepM P S W).X W = tookW P (S.X W) 0 (stepOf (P.dq W 0) S.l o).2 := by unfold stepM; rw [if_neg hne, ha]; exact take_X P S W 0 o _
    have hv : yM P S.X W = .pop o := by unfold yM vaM; rw [ha]; rfl
    have hO : OpI P W (.pop o) := (hv ▸ h.v.sh W hW : ShV P W (.pop o)).op trivial
    rw [e] at hact' ⊢
    by_cases hdn : (stepOf (P.dq W 0) S.l o).2.done = true
    · exfalso
      have he0 : (stepOf (P.dq W 0) S.l o).2.errno ≠ 0 := by
        rcases hq with q | ⟨o2, q⟩ | ⟨b2, o2, q, q2⟩ | ⟨a2, o2, q, q2⟩ | ⟨q, _⟩
        · exact absurd q hne
        · rw [ha] at q; cases q
        · rw [ha] at q; cases q
        · rw [ha] at q; cases q
          rcases q2 with q2 | q2
          · rw [hdn] at q2; cases q2
          · exact q2
        · rw [ha] at q; cases q
      have hk : KindI false o := hO.kind
      have hr : ErrI false o := hO.err
      have ht : takeAt o.at_ = true := by have := (hk hd).1; simpa using this
      have her : o.at_ = .free → o.errno = 0 ∨ o.errno = 15 := fun g => by have := hr.2 hd g; simpa using this
      rcases step_fails hd ht her hdn he0 with ⟨g1, _⟩ | ⟨g1, g2⟩
      · rw [g1] at ho; cases ho
      · have hn1 : 1 ≤ P.n := h.v.ok.n1
        have e2 : tookW P (S.X W) 0 (stepOf (P.dq W 0) S.l o).2 = askW P (S.X W) 1 := by
          unfold tookW
          rw [if_pos hdn, (val_of hdn).1, if_neg he0, if_neg (by omega)]
        rw [e2] at hact'
        rcases ask_cases (k := W) P (S.X W) 1 hn1 hW with ⟨_, e3, _⟩ | ⟨e3, _⟩ | ⟨_, _, e3, _⟩
        · rw [e3] at hact'
          rcases hact' with g | ⟨b, g⟩ | ⟨v, g⟩ | ⟨b, o3, g, _⟩ | ⟨o3, g, _⟩ <;> cases g
        · omega
        · rw [e3] at hact'
          rcases hact' with g | ⟨b, g⟩ | ⟨v, g⟩ | ⟨b, o3, g, _⟩ | ⟨o3, g, _⟩ <;> cases g
    · have hdn' : (stepOf (P.dq W 0) S.l o).2.done = false := by simpa using hdn
      unfold tookW
      rw [if_neg hdn]
      rcases pos_step hd ho hdn' with g | ⟨g1, g2, g3⟩
      · left
        show posO (stepOf (P.dq W 0) S.l o).2.at_ < _
        rw [show posM (S.X W) = posO o.at_ by unfold posM; rw [ha]]
        exact g
      · right
        refine ⟨?_, ⟨o, .inr ha, g3⟩, by rw [← dq_zero hW]; exact g2⟩
        rw [g1, ← ha]

/-- Nobody else is there. -/
def IdleM (P : MP) (S : MS) : Prop := ∀ i, P.n ≤ i → (S.X i).act = .choose
theorem step_other (P : MP) (S : MS) {k i : Nat} (h : i ≠ k) : (stepM P S k).X i = S.X i := by
  unfold stepM
  by_cases he : (S.X k).ended = true
  · rw [if_pos he]
  rw [if_neg he]
  cases (S.X k).act with
  | choose =>
    simp only
    unfold chooseM
    cases (S.X k).hands with
    | cons r hs =>
      simp only
      split
      · exact updM_ne _ _ h
      · split <;> exact updM_ne _ _ h
    | nil =>
      simp only
      cases (S.X k).places with
      | cons p ps => exact updM_ne _ _ h
      | nil =>
        simp only
        split
        · exact updM_ne _ _ h
        · exact updM_ne _ _ h
  | mark b => exact updM_ne _ _ h
  | push b o => exact updM_ne _ _ h
  | take a o => exact updM_ne _ _ h
  | open_ v =>
    simp only
    split <;> exact updM_ne _ _ h
  | end_ o => exact updM_ne _ _ h
theorem IdleM.step (h : IdleM P S) {k : Nat} (hk : k < P.n) : IdleM P (stepM P S k) := fun i hi => by rw [step_other P S (by omega)]; exact h i hi

/-- Has k the lock of W's deque, as a thief? -/
def hasLM (P : MP) (k W : Nat) (x : MW) : Bool :=
  match x.act with
  | .take a o => decide (a ≠ 0) && decide ((k + a) % P.n = W) && decide (0 < sess o.at_)
  | _ => false
theorem lock_heldM (h : AllM P S) (hI : IdleM P S) (hW : W < P.n) (hb : BusyM P S W) (hl : atLockM (S.X W)) (hr : rd (P.cfg W) S.l 2 ≠ 0) : ∃ i, i < P.n ∧ i ≠ W ∧ hasLM P i W (S.X i) = true := by
  have hD := h.v.wells W hW
  have hL : (viewOf (P.cfg W) S.l).L = 1 := by
    rcases hD.lock with g | g
    · exact absurd g hr
    · exact g
  obtain ⟨a, ha⟩ := hD.held hL
  obtain ⟨o, hj, hat⟩ := hl
  have hv : ownV (yM P S.X W) = o := by
    rcases hj with ⟨b, g⟩ | g
    · unfold yM vaM; rw [g]; rfl
    · unfold yM vaM; rw [g]; rfl
  cases a with
  | none =>
    exfalso
    rw [show partY (yM P S.X) W none = o from hv] at ha
    rcases hat with e | e <;> simp [hn, e, holdsAt] at ha
  | some i =>
    obtain ⟨o', hx, hh⟩ : ∃ o', yM P S.X i = .steal W o' ∧ hn o' = 1 := by
      simp only [partY] at ha
      cases hy : yM P S.X i with
      | loc => rw [hy] at ha; simp [thfV, hn, opDone] at ha
      | push o2 => rw [hy] at ha; simp [thfV, hn, opDone] at ha
      | pop o2 => rw [hy] at ha; simp [thfV, hn, opDone] at ha
      | offer o2 => rw [hy] at ha; simp [thfV, hn, opDone] at ha
      | steal j o2 =>
        rw [hy] at ha
        simp only [thfV] at ha
        by_cases e : j = W
        · rw [if_pos e] at ha; exact ⟨o2, by rw [e], ha⟩
        · rw [if_neg e] at ha; simp [hn, opDone] at ha
    have hin : i < P.n := by
      by_cases g : i < P.n
      · exact g
      · have := hI i (by omega)
        unfold yM vaM at hx
        rw [this] at hx
        cases hx
    have hO : OpI P i (.steal W o') := (hx ▸ h.v.sh i hin : ShV P i (.steal W o')).op trivial
    refine ⟨i, hin, fun e => hO.st W o' rfl e.symm, ?_⟩
    have hd : o'.done = false := hO.dn
    have ht : takeAt o'.at_ = true := (hO.kind hd).1
    have hse : 0 < sess o'.at_ := by
      unfold hn at hh
      rw [hd] at hh
      revert hh ht
      cases o'.at_ <;> simp [holdsAt, takeAt, sess]
    unfold yM vaM at hx
    unfold hasLM
    cases hc : (S.X i).act with
    | choose => rw [hc] at hx; cases hx
    | mark b => rw [hc] at hx; cases hx
    | push b o => rw [hc] at hx; cases hx
    | open_ v => rw [hc] at hx; cases hx
    | end_ o => rw [hc] at hx; cases hx
    | take a o2 =>
      rw [hc] at hx
      simp only at hx ⊢
      by_cases h0 : a = 0
      · rw [if_pos h0] at hx; cases hx
      · rw [if_neg h0] at hx
        injection hx with e1 e2
        subst e2
        simp [h0, e1, hse]
end
end Go.Proofs.YtgbclfhgpkmcnaaGreatDoor

/-
  The marker without memory: how far another worker is from the lock of a worker's deque ('farM'), what is left of its session there ('cM'): what each quiet step does to it ('c_moveM'). No Go is walked here.
-/
namespace Go.Proofs.YtgbclfhgpkmcnaaGreatDoor
set_option linter.unusedVariables false
set_option linter.unusedSimpArgs false

/-- W's deque is the one that k asks as its so-manieth. -/
def relW (n k W : Nat) : Nat := (W + n - k) % n
theorem relW_is {n k W : Nat} (hk : k < n) (hW : W < n) (hne : k ≠ W) : 1 ≤ relW n k W ∧ relW n k W < n ∧ (k + relW n k W) % n = W ∧ ∀ a, a < n → (k + a) % n = W → a = relW n k W := by
  have e : (k ≤ W ∧ relW n k W = W - k) ∨ (W < k ∧ relW n k W = W + n - k) := by
    unfold relW
    by_cases h : k ≤ W
    · left
      refine ⟨h, ?_⟩
      rw [show W + n - k = (W - k) + n by omega, Nat.add_mod_right, Nat.mod_eq_of_lt (by omega)]
    · right
      refine ⟨by omega, ?_⟩
      rw [Nat.mod_eq_of_lt (by omega)]
  refine ⟨by omega, by omega, ?_, fun a ha h => ?_⟩
  · rcases e with ⟨h, e⟩ | ⟨h, e⟩
    · rw [e, Nat.mod_eq_of_lt (by omega)]; omega
    · rw [e, show k + (W + n - k) = W + n by omega, Nat.add_mod_right, Nat.mod_eq_of_lt hW]
  · by_cases g : k + a < n
    · rw [Nat.mod_eq_of_lt g] at h; omega
    · rw [Nat.mod_eq_sub_mod (by omega), Nat.mod_eq_of_lt (by omega)] at h; omega

def popR (r : Nat) : Nat := 4 + 5 * r
/-- Steps till it stands at that lock. -/
def farT (n r a : Nat) (s : Stp) : Nat := if a < r then remT s + (5 * (r - a - 1) + 2) else if a = r then remL s else remT s + 5 * (n - 1 - a) + 5 + popR r
def farM (n r : Nat) (x : MW) : Nat :=
  match x.act with
  | .choose => popR r
  | .take a o => farT n r a o.at_
  | .end_ o => if x.ended then 20 * n + 100 else offD o.at_ + popR r
  | _ => 20 * n + 100
def inSess (r : Nat) (x : MW) : Nat :=
  match x.act with
  | .take a o => if a = r then sess o.at_ else 0
  | _ => 0
def cM (n r m : Nat) (x : MW) : Nat := if 0 < inSess r x then inSess r x else if farM n r x ≤ m then 5 else 0
theorem remT_le (s : Stp) : remT s ≤ 7 := by cases s <;> decide
theorem sess_le (s : Stp) : sess s ≤ 4 := by cases s <;> decide
theorem offD_le (s : QStp) : 1 ≤ offD s ∧ offD s ≤ 5 := by cases s <;> decide
theorem cM_le (n r m : Nat) (x : MW) : cM n r m x ≤ 5 := by
  unfold cM
  split
  · unfold inSess
    split
    · split
      · have := sess_le; rename_i o _ _; have := sess_le o.at_; omega
      · omega
    · omega
  · split <;> omega
theorem cM_key {n r m : Nat} {x x' : MW} (h1 : inSess r x' = 0) (h2 : inSess r x = 0) (h3 : farM n r x ≤ farM n r x' + 1) : cM n r m x' ≤ cM n r (m + 1) x := by
  unfold cM
  rw [h1, h2]
  simp only [Nat.lt_irrefl, if_false]
  by_cases g : farM n r x' ≤ m
  · rw [if_pos g, if_pos (by omega)]; exact Nat.le_refl _
  · rw [if_neg g]; exact Nat.zero_le _

section
variable {P : MP} {S : MS} {k : Nat}
/-- What is asked next: how far then. -/
def startR (n r i : Nat) : Nat := if i = 0 then popR r else if i < r then 5 + (5 * (r - i - 1) + 2) else if i = r then 2 else if i < n then 5 + 5 * (n - 1 - i) + 5 + popR r else 5 + popR r
theorem far_ask {x : MW} (he : x.ended = false) {r i : Nat} (hr : 1 ≤ r ∧ r < P.n) (hi : i ≤ P.n) (hk : k < P.n) : farM P.n r (askW P x i) = startR P.n r i ∧ inSess r (askW P x i) = 0 := by
  rcases ask_cases (k := k) P x i hi hk with ⟨h1, e, _⟩ | ⟨h1, h2, e, _⟩ | ⟨h1, h2, e, _⟩ <;> rw [e]
  · refine ⟨?_, rfl⟩
    unfold farM startR
    simp only
    rw [he, if_neg (by decide), if_neg (by omega), if_neg (by omega), if_neg (by omega), if_neg (by omega)]
    rfl
  · refine ⟨?_, by unfold inSess; simp only; split <;> rfl⟩
    subst h1
    unfold farM startR farT
    simp only
    rw [if_pos (by omega)]
    simp only [if_true, opNew, remT, popR]
    omega
  · refine ⟨?_, by unfold inSess; simp only; split <;> rfl⟩
    unfold farM startR farT
    simp only
    rw [if_neg (show ¬ i = 0 by omega)]
    simp only [opNew, remT, remL]
    by_cases g : i < r
    · rw [if_pos g, if_pos g]
    · rw [if_neg g, if_neg g]
      by_cases g2 : i = r
      · rw [if_pos g2, if_pos g2]
      · rw [if_neg g2, if_neg g2, if_pos h2]
theorem has_sess {W r : Nat} {x : MW} (hr : 1 ≤ r) (hrel : ∀ a, a < P.n → (k + a) % P.n = W → a = r) (hW : (k + r) % P.n = W) (ht : ∀ a o, x.act = .take a o → a < P.n) : hasLM P k W x = true ↔ 0 < inSess r x := by
  unfold hasLM inSess
  cases ha : x.act with
  | choose => simp
  | mark b => simp
  | push b o => simp
  | open_ v => simp
  | end_ o => simp
  | take a o =>
    simp only [Bool.and_eq_true, decide_eq_true_eq]
    have := ht a o ha
    by_cases e : a = r
    · subst e
      rw [if_pos rfl]
      exact ⟨fun g => g.2, fun g => ⟨⟨by omega, hW⟩, g⟩⟩
    · rw [if_neg e]
      exact ⟨fun g => absurd (hrel a this g.1.2) e, fun g => by omega⟩

theorem c_moveM (h : AllM P S) (hk : k < P.n) {r m : Nat} (hr : 1 ≤ r ∧ r < P.n) (hq : QsM P S k) (hm : m ≤ 5 * (P.n - 1)) :
    cM P.n r m ((stepM P S k).X k) + (if 0 < inSess r (S.X k) then 1 else 0) ≤ cM P.n r (m + 1) (S.X k) := by
  have hw := h.w k hk
  have key : ∀ x' : MW, inSess r x' = 0 → inSess r (S.X k) = 0 → farM P.n r (S.X k) ≤ farM P.n r x' + 1 → cM P.n r m x' + (if 0 < inSess r (S.X k) then 1 else 0) ≤ cM P.n r (m + 1) (S.X k) := by
    intro x' h1 h2 h3
    have := cM_key (m := m) h1 h2 h3
    rw [h2]
    simpa using this
  by_cases he : (S.X k).ended = true
  · obtain ⟨o, ho, _⟩ := hw.ended.1 he
    have e : stepM P S k = S := by unfold stepM; rw [if_pos he]
    rw [e]
    exact key _ (by unfold inSess; rw [ho]) (by unfold inSess; rw [ho]) (by omega)
  have he' : (S.X k).ended = false := by simpa using he
  cases ha : (S.X k).act with
  | mark b =>
    exfalso
    rcases hq with q | ⟨o2, q⟩ | ⟨b2, o2, q, q2⟩ | ⟨a2, o2, q, q2⟩ | ⟨q, _⟩
    · exact absurd q he
    all_goals (rw [ha] at q; cases q)
  | open_ v =>
    exfalso
    rcases hq with q | ⟨o2, q⟩ | ⟨b2, o2, q, q2⟩ | ⟨a2, o2, q, q2⟩ | ⟨q, _⟩
    · exact absurd q he
    all_goals (rw [ha] at q; cases q)
  | push b o =>
    have e : (stepM P S k).X k = pushedW (S.X k) b (stepOf (P.dq k 0) S.l o).2 := by unfold stepM; rw [if_neg he, ha]; exact updM_at _ _ _
    have hdn : (stepOf (P.dq k 0) S.l o).2.done = false := by
      rcases hq with q | ⟨o2, q⟩ | ⟨b2, o2, q, q2⟩ | ⟨a2, o2, q, q2⟩ | ⟨q, _⟩
      · exact absurd q he
      · rw [ha] at q; cases q
      · rw [ha] at q; cases q; exact q2
      · rw [ha] at q; cases q
      · rw [ha] at q; cases q
    rw [e]
    unfold pushedW
    rw [if_neg (by rw [hdn]; decide)]
    refine key _ rfl (by unfold inSess; rw [ha]) ?_
    unfold farM
    rw [ha]
    simp only
    omega
  | choose =>
    rcases hq with q | ⟨o2, q⟩ | ⟨b2, o2, q, q2⟩ | ⟨a2, o2, q, q2⟩ | ⟨_, q1, q2, q3⟩
    · exact absurd q he
    · rw [ha] at q; cases q
    · rw [ha] at q; cases q
    · rw [ha] at q; cases q
    have e : stepM P S k = takeM P S k (S.X k) 0 (opNew .popReadBottom 0) := by unfold stepM; rw [if_neg he, ha]; exact choose_none q1 q2 q3
    rw [e, take_X]
    have e2 : tookW P (S.X k) 0 (stepOf (P.dq k 0) S.l (opNew .popReadBottom 0)).2 = { S.X k with act := .take 0 (stepOf (P.dq k 0) S.l (opNew .popReadBottom 0)).2 } := rfl
    rw [e2]
    refine key _ (by unfold inSess; simp only; rw [if_neg (by omega)]) (by unfold inSess; rw [ha]) ?_
    unfold farM
    rw [ha]
    simp only
    have e3 : (stepOf (P.dq k 0) S.l (opNew .popReadBottom 0)).2.at_ = .popBottom := rfl
    rw [e3]
    unfold farT popR
    rw [if_pos (by omega)]
    simp only [remT]
    omega
  | end_ o =>
    have e : (stepM P S k).X k = endedW (S.X k) (stepQ (P.Q k) S.l o).2 := by unfold stepM; rw [if_neg he, ha]; exact updM_at _ _ _
    have hv : yM P S.X k = .offer o := by unfold yM vaM; rw [ha]
    have hs : ShV P k (.offer o) := hv ▸ h.v.sh k hk
    have h0 : o.state = 0 := by
      rcases hs.2 with g | g
      · exact g
      · have := hw.ended.2 ⟨o, ha, g⟩
        rw [he'] at this; cases this
    have hx : farM P.n r (S.X k) = offD o.at_ + popR r := by unfold farM; rw [ha, he']; simp
    have hx5 := offD_le o.at_
    rw [e]
    unfold endedW
    by_cases e2 : (stepQ (P.Q k) S.l o).2.state = 2
    · rw [if_pos e2]
      refine key _ rfl (by unfold inSess; rw [ha]) ?_
      rw [hx]
      unfold farM popR
      simp only [if_true]
      omega
    · rw [if_neg e2]
      by_cases e1 : (stepQ (P.Q k) S.l o).2.state = 1
      · rw [if_pos e1]
        refine key _ rfl (by unfold inSess; rw [ha]) ?_
        rw [hx, off_one h0 e1]
        unfold farM
        simp only [offD]
        omega
      · rw [if_neg e1]
        refine key _ rfl (by unfold inSess; rw [ha]) ?_
        have := off_step h0 e1 e2
        rw [hx]
        unfold farM
        simp only
        rw [he']
        simp only [Bool.false_eq_true, if_false]
        omega
  | take a o =>
    obtain ⟨han, hn⟩ := hw.take a o ha
    obtain ⟨i1, i2, i3, i4, i5⟩ := va_take hk ha
    have hO : OpI P k (vaM P k (S.X k)) := (h.v.sh k hk).op i1
    have hd : o.done = false := by rw [← i2]; exact hO.dn
    have hki : KindI false o := by rw [← i2, ← i4]; exact hO.kind
    have hei : ErrI false o := by have := hO.err; rw [i2, i4] at this; exact this
    have ht : takeAt o.at_ = true := (hki hd).1
    have her : o.at_ = .free → o.errno = 0 ∨ o.errno = 15 := fun g => by have := hei.2 hd g; simpa using this
    have e : (stepM P S k).X k = tookW P (S.X k) a (stepOf (P.dq k a) S.l o).2 := by unfold stepM; rw [if_neg he, ha]; exact take_X P S k a o _
    have hq2 : (stepOf (P.dq k a) S.l o).2.done = false ∨ (stepOf (P.dq k a) S.l o).2.errno ≠ 0 := by
      rcases hq with q | ⟨o2, q⟩ | ⟨b2, o2, q, q2⟩ | ⟨a2, o2, q, q2⟩ | ⟨q, _⟩
      · exact absurd q he
      · rw [ha] at q; cases q
      · rw [ha] at q; cases q
      · rw [ha] at q; cases q; exact q2
      · rw [ha] at q; cases q
    have hxs : inSess r (S.X k) = if a = r then sess o.at_ else 0 := by unfold inSess; rw [ha]
    have hxf : farM P.n r (S.X k) = farT P.n r a o.at_ := by unfold farM; rw [ha]
    rw [e]
    unfold tookW
    by_cases hdn : (stepOf (P.dq k a) S.l o).2.done = true
    · have he0 : (stepOf (P.dq k a) S.l o).2.errno ≠ 0 := by
        rcases hq2 with q | q
        · rw [hdn] at q; cases q
        · exact q
      rw [if_pos hdn, (val_of hdn).1, if_neg he0]
      rcases step_fails hd ht her hdn he0 with ⟨f1, f2⟩ | ⟨f1, f2⟩
      · rw [if_pos f2]
        obtain ⟨g1, g2⟩ := far_ask (P := P) (x := S.X k) he' hr (show a ≤ P.n by omega) hk
        refine key _ g2 (by rw [hxs, f1]; split <;> rfl) ?_
        rw [g1, hxf, f1]
        unfold farT startR popR
        simp only [remT, remL]
        split <;> split <;> (try split) <;> (try split) <;> (try split) <;> omega
      · rw [if_neg (by omega)]
        obtain ⟨g1, g2⟩ := far_ask (P := P) (x := S.X k) he' hr (show a + 1 ≤ P.n by omega) hk
        by_cases har : a = r
        · -- the session at the lock ends
          have hc1 : cM P.n r (m + 1) (S.X k) = 1 := by
            unfold cM
            rw [hxs, if_pos har, f1]
            rfl
          have hfr : cM P.n r m (askW P (S.X k) (a + 1)) = 0 := by
            unfold cM
            rw [g2, g1]
            simp only [Nat.lt_irrefl, if_false]
            rw [if_neg]
            unfold startR popR
            rw [if_neg (by omega), if_neg (by omega), if_neg (by omega)]
            split <;> omega
          rw [hfr, hc1]
          split <;> omega
        · refine key _ g2 (by rw [hxs, if_neg har]) ?_
          rw [g1, hxf, f1]
          unfold farT startR popR
          simp only [remT]
          rw [if_neg (show ¬ a + 1 = 0 by omega)]
          by_cases q1 : a < r
          · rw [if_pos q1]
            by_cases q2 : a + 1 < r
            · rw [if_pos q2]; omega
            · rw [if_neg q2, if_pos (by omega)]; omega
          · rw [if_neg q1, if_neg har, if_neg (by omega), if_neg (by omega)]
            by_cases q2 : a + 1 < P.n
            · rw [if_pos q2]; omega
            · rw [if_neg q2]; omega
    · rw [if_neg hdn]
      have hdn' : (stepOf (P.dq k a) S.l o).2.done = false := by simpa using hdn
      obtain ⟨r1, r2, r3, r4⟩ := step_rem hd ht hdn'
      generalize (stepOf (P.dq k a) S.l o).2 = o' at *
      have hys : inSess r { S.X k with act := .take a o' } = if a = r then sess o'.at_ else 0 := rfl
      have hyf : farM P.n r { S.X k with act := .take a o' } = farT P.n r a o'.at_ := rfl
      by_cases har : a = r
      · rw [if_pos har] at hxs hys
        by_cases hse : 0 < sess o.at_
        · -- within a session
          obtain ⟨q1, q2⟩ := r4 hse
          unfold cM
          rw [hxs, hys, if_pos q1, if_pos hse, if_pos hse]
          omega
        · by_cases hse' : 0 < sess o'.at_
          · -- it gets the lock
            have htl := r3 (by omega) hse'
            have hc : cM P.n r (m + 1) (S.X k) = 5 := by
              unfold cM
              rw [hxs, if_neg hse, hxf, if_pos]
              unfold farT
              rw [if_neg (by omega), if_pos har, htl]
              simp [remL]
            rw [hc, hxs, if_neg hse]
            exact cM_le _ _ _ _
          · refine key _ (by rw [hys]; omega) (by rw [hxs]; omega) ?_
            rw [hxf, hyf]
            have := r2 (by omega)
            unfold farT
            rw [if_neg (by omega), if_pos har, if_neg (by omega), if_pos har]
            exact this
      · rw [if_neg har] at hxs hys
        refine key _ hys hxs ?_
        rw [hxf, hyf]
        unfold farT
        by_cases q1 : a < r
        · rw [if_pos q1, if_pos q1]; omega
        · rw [if_neg q1, if_neg har, if_neg q1, if_neg har]; omega
end
end Go.Proofs.YtgbclfhgpkmcnaaGreatDoor

/-
  The marker without memory: what lies in each deque stays where a step is quiet and nothing is on its way ('hasY_step'), and who has something keeps it ('busy_step'). No Go is walked here.
-/
namespace Go.Proofs.YtgbclfhgpkmcnaaGreatDoor
set_option linter.unusedVariables false
set_option linter.unusedSimpArgs false

/-- Something is on its way: the worker's next step isn't quiet. -/
def onWayM (x : MW) : Prop := (∃ b o, x.act = .push b o ∧ o.at_ = .free ∧ o.errno = 0) ∨ ∃ a o, x.act = .take a o ∧ ((o.at_ = .free ∧ o.errno = 0) ∨ o.at_ = .popWon)
section
variable {P : MP} {S : MS} {k : Nat} {f : Int → Int}
theorem onWay_evM (h : AllM P S) (hk : k < P.n) (hw : onWayM (S.X k)) : ¬ QsM P S k := by
  intro hq
  rcases hw with ⟨b, o, ha, h1, h2⟩ | ⟨a, o, ha, h1⟩
  · obtain ⟨i1, i2, i3, i4, i5⟩ := va_push hk ha
    have hO : OpI P k (vaM P k (S.X k)) := (h.v.sh k hk).op i1
    have hd : o.done = false := by rw [← i2]; exact hO.dn
    have hdn : (stepOf (P.dq k 0) S.l o).2.done = true := by
      obtain ⟨at_, dn, t, u, c, it, en⟩ := o
      simp only at hd h1 h2
      subst hd h1 h2
      simp [stepOf]
    rcases hq with q | ⟨o2, q⟩ | ⟨b2, o2, q, q2⟩ | ⟨a2, o2, q, q2⟩ | ⟨q, _⟩
    · obtain ⟨o3, g, _⟩ := (h.w k hk).ended.1 q
      rw [ha] at g; cases g
    · rw [ha] at q; cases q
    · rw [ha] at q; cases q; rw [hdn] at q2; cases q2
    · rw [ha] at q; cases q
    · rw [ha] at q; cases q
  · obtain ⟨i1, i2, i3, i4, i5⟩ := va_take hk ha
    have hO : OpI P k (vaM P k (S.X k)) := (h.v.sh k hk).op i1
    have hd : o.done = false := by rw [← i2]; exact hO.dn
    have hki : KindI false o := by rw [← i2, ← i4]; exact hO.kind
    have hdn : (stepOf (P.dq k a) S.l o).2.done = true ∧ (stepOf (P.dq k a) S.l o).2.errno = 0 := by
      have hk2 := (hki hd).2
      obtain ⟨at_, dn, t, u, c, it, en⟩ := o
      simp only at hd h1 hk2
      subst hd
      rcases h1 with ⟨rfl, rfl⟩ | rfl
      · simp [stepOf]
      · have := hk2 (by decide)
        subst this
        simp [stepOf]
    rcases hq with q | ⟨o2, q⟩ | ⟨b2, o2, q, q2⟩ | ⟨a2, o2, q, q2⟩ | ⟨q, _⟩
    · obtain ⟨o3, g, _⟩ := (h.w k hk).ended.1 q
      rw [ha] at g; cases g
    · rw [ha] at q; cases q
    · rw [ha] at q; cases q
    · rw [ha] at q; cases q
      rcases q2 with q2 | q2
      · rw [hdn.1] at q2; cases q2
      · exact q2 hdn.2
    · rw [ha] at q; cases q
theorem way_zero {p : Bool} {o : OpS} (hd : o.done = false) (h1 : ¬ (o.at_ = .free ∧ o.errno = 0)) (h2 : p = false → o.at_ ≠ .popWon) : way p f o = 0 := by
  unfold way
  rw [hd]
  cases p with
  | true => simp; intro g g2; exact absurd ⟨g, g2⟩ h1
  | false =>
    have := h2 rfl
    simp [this]
    intro g g2; exact absurd ⟨g, g2⟩ h1
/-- An operation's step with nothing on its way. -/
theorem hasY_op (h : AllM P S) (hk : k < P.n) (ho : IsOp (vaM P k (S.X k))) {u : VA}
    (hx : ((actO P S.l k (vaM P k (S.X k))).done = false ∧ u = withV (vaM P k (S.X k)) (actO P S.l k (vaM P k (S.X k)))) ∨ ((actO P S.l k (vaM P k (S.X k))).done = true ∧ Begins none (ownV u)))
    (w1 : wayV f (vaM P k (S.X k)) = 0) (w2 : wayV f (withV (vaM P k (S.X k)) (actO P S.l k (vaM P k (S.X k)))) = 0) (j : Nat) (hj : j < P.n) :
    hasY f P (actL P S.l k (vaM P k (S.X k))) (updY (yM P S.X) k u) j = hasY f P S.l (yM P S.X) j := by
  have hO : OpI P k (vaM P k (S.X k)) := (h.v.sh k hk).op ho
  obtain ⟨a1, a2⟩ := hasY_act (f := f) (Y := yM P S.X) (v := vaM P k (S.X k)) h.v.ok h.v.wells rfl hO
  have hmid : hasY f P (actL P S.l k (vaM P k (S.X k))) (updY (yM P S.X) k (withV (vaM P k (S.X k)) (actO P S.l k (vaM P k (S.X k))))) j = hasY f P S.l (yM P S.X) j := by
    by_cases e : j = dqV k (vaM P k (S.X k))
    · rw [e]; rw [w1, w2] at a2; omega
    · exact a1 j hj e
  rcases hx with ⟨_, e⟩ | ⟨hd, hb⟩
  · rw [e]; exact hmid
  · rw [← hmid, ← updY_twice (yM P S.X) k (withV (vaM P k (S.X k)) (actO P S.l k (vaM P k (S.X k)))) u]
    refine hasY_set u (fun v' => bot_done ?_ v') (fun v' => bot_begins hb v') j
    rw [updY_at]
    have hop := hO.op
    revert hd hop
    generalize actO P S.l k (vaM P k (S.X k)) = o'
    cases vaM P k (S.X k) with
    | loc => intro _ g; cases g
    | offer o => intro _ g; cases g
    | push o => intro g _; exact g
    | pop o => intro g _; exact g
    | steal j o => intro _ _; rfl
theorem hasY_take (h : AllM P S) (hk : k < P.n) {a : Nat} {o : OpS} (ha : (S.X k).act = .take a o) (hq : (stepOf (P.dq k a) S.l o).2.done = false ∨ (stepOf (P.dq k a) S.l o).2.errno ≠ 0)
    (hz0 : ¬ onWayM (S.X k)) (hz : ¬ onWayM ((takeM P S k (S.X k) a o).X k)) (j : Nat) (hj : j < P.n) : hasY f P (takeM P S k (S.X k) a o).l (yM P (takeM P S k (S.X k) a o).X) j = hasY f P S.l (yM P S.X) j := by
  obtain ⟨i1, i2, i3, i4, i5⟩ := va_take hk ha
  obtain ⟨han, hn⟩ := (h.w k hk).take a o ha
  have hO : OpI P k (vaM P k (S.X k)) := (h.v.sh k hk).op i1
  have hd : o.done = false := by rw [← i2]; exact hO.dn
  have el : actL P S.l k (vaM P k (S.X k)) = (stepOf (P.dq k a) S.l o).1 := by unfold actL; rw [i2, i3]
  have eo : actO P S.l k (vaM P k (S.X k)) = (stepOf (P.dq k a) S.l o).2 := by unfold actO; rw [i2, i3]
  have w1 : wayV f (vaM P k (S.X k)) = way false f o := by
    unfold vaM; rw [ha]; simp only
    split <;> rfl
  have w2 : wayV f (withV (vaM P k (S.X k)) (stepOf (P.dq k a) S.l o).2) = way false f (stepOf (P.dq k a) S.l o).2 := by
    unfold vaM; rw [ha]; simp only
    split <;> rfl
  have z1 : way false f o = 0 := way_zero hd (fun g => hz0 (.inr ⟨a, o, ha, .inl g⟩)) (fun _ g => hz0 (.inr ⟨a, o, ha, .inr g⟩))
  have hop := fun (u : VA) (hx : _) (g : _) => hasY_op (f := f) h hk i1 (u := u) hx (by rw [w1]; exact z1) (by rw [eo, w2]; exact g) j hj
  rw [eo, el] at hop
  rw [take_X] at hz
  unfold takeM
  simp only
  rw [yM_upd]
  by_cases hdn : (stepOf (P.dq k a) S.l o).2.done = true
  · have he0 : (stepOf (P.dq k a) S.l o).2.errno ≠ 0 := by
      rcases hq with q | q
      · rw [hdn] at q; cases q
      · exact q
    refine hop _ (.inr ⟨hdn, ?_⟩) (way_doneE hdn he0 false)
    have hask : ∀ c, c ≤ P.n → Begins none (ownV (vaM P k (askW P (S.X k) c))) := fun c hc => by
      rcases ask_cases (k := k) P (S.X k) c hc hk with ⟨_, e1, e2⟩ | ⟨_, _, e1, e2⟩ | ⟨_, _, e1, e2⟩
      · rw [e2]; exact .inl rfl
      · rw [e2]; exact (bg_pop (P := P) (l := S.l) hk).own
      · rw [e2]; exact .inl rfl
    unfold tookW
    rw [if_pos hdn, (val_of hdn).1, if_neg he0]
    split
    · exact hask a (by omega)
    · exact hask (a + 1) (by omega)
  · have hdn' : (stepOf (P.dq k a) S.l o).2.done = false := by simpa using hdn
    have e1 : tookW P (S.X k) a (stepOf (P.dq k a) S.l o).2 = { S.X k with act := .take a (stepOf (P.dq k a) S.l o).2 } := by unfold tookW; rw [if_neg hdn]
    rw [e1] at hz ⊢
    refine hop _ (.inl ⟨hdn', i5 _⟩) (way_zero hdn' (fun g => hz (.inr ⟨a, _, rfl, .inl g⟩)) (fun _ g => hz (.inr ⟨a, _, rfl, .inr g⟩)))
theorem hasY_step (h : AllM P S) (hk : k < P.n) (hq : QsM P S k) (hz : ¬ onWayM ((stepM P S k).X k)) (j : Nat) (hj : j < P.n) : hasY f P (stepM P S k).l (yM P (stepM P S k).X) j = hasY f P S.l (yM P S.X) j := by
  have hz0 : ¬ onWayM (S.X k) := fun g => onWay_evM h hk g hq
  have hw := h.w k hk
  by_cases he : (S.X k).ended = true
  · have e : stepM P S k = S := by unfold stepM; rw [if_pos he]
    rw [e]
  rcases hq with q | ⟨o, ha⟩ | ⟨b, o, ha, hd'⟩ | ⟨a, o, ha, hq⟩ | ⟨ha, q1, q2, q3⟩
  · exact absurd q he
  · have e : stepM P S k = { S with l := (stepQ (P.Q k) S.l o).1, X := updM S.X k (endedW (S.X k) (stepQ (P.Q k) S.l o).2), cs := S.cs + 1 } := by unfold stepM; rw [if_neg he, ha]
    rw [e]
    simp only
    rw [yM_upd]
    have e2 : ∀ Y, hasY f P (stepQ (P.Q k) S.l o).1 Y j = hasY f P S.l Y j := fun Y => by unfold hasY; rw [view_off]
    rw [e2]
    refine hasY_set _ (bot_va (by rw [ha]; intro b o g; cases g) (by rw [ha]; intro o g; cases g)) ?_ j
    unfold endedW
    split
    · exact fun v => rfl
    · split
      · exact fun v => rfl
      · exact fun v => rfl
  · have e : stepM P S k = { S with l := (stepOf (P.dq k 0) S.l o).1, X := updM S.X k (pushedW (S.X k) b (stepOf (P.dq k 0) S.l o).2), cs := S.cs + 1 } := by unfold stepM; rw [if_neg he, ha]
    obtain ⟨i1, i2, i3, i4, i5⟩ := va_push hk ha
    have hO : OpI P k (vaM P k (S.X k)) := (h.v.sh k hk).op i1
    have hd : o.done = false := by rw [← i2]; exact hO.dn
    have el : actL P S.l k (vaM P k (S.X k)) = (stepOf (P.dq k 0) S.l o).1 := by unfold actL; rw [i2, i3]
    have eo : actO P S.l k (vaM P k (S.X k)) = (stepOf (P.dq k 0) S.l o).2 := by unfold actO; rw [i2, i3]
    have w1 : wayV f (vaM P k (S.X k)) = way true f o := by unfold vaM; rw [ha]; rfl
    have w2 : wayV f (withV (vaM P k (S.X k)) (stepOf (P.dq k 0) S.l o).2) = way true f (stepOf (P.dq k 0) S.l o).2 := by unfold vaM; rw [ha]; rfl
    have eX : (stepM P S k).X k = { S.X k with act := .push b (stepOf (P.dq k 0) S.l o).2 } := by
      rw [e]
      simp only
      rw [updM_at]
      unfold pushedW
      rw [if_neg (by rw [hd']; decide)]
    rw [eX] at hz
    have z1 : way true f o = 0 := way_zero hd (fun g => hz0 (.inl ⟨b, o, ha, g⟩)) (fun g => by cases g)
    have z2 : way true f (stepOf (P.dq k 0) S.l o).2 = 0 := way_zero hd' (fun g => hz (.inl ⟨b, _, rfl, g⟩)) (fun g => by cases g)
    have hop := hasY_op (f := f) h hk i1 (u := vaM P k { S.X k with act := .push b (stepOf (P.dq k 0) S.l o).2 }) (.inl ⟨by rw [eo]; exact hd', by rw [eo]; exact i5 _⟩) (by rw [w1]; exact z1) (by rw [eo, w2]; exact z2) j hj
    rw [el] at hop
    rw [e]
    simp only
    rw [yM_upd]
    unfold pushedW
    rw [if_neg (by rw [hd']; decide)]
    exact hop
  · have e : stepM P S k = takeM P S k (S.X k) a o := by unfold stepM; rw [if_neg he, ha]
    rw [e] at hz ⊢
    exact hasY_take h hk ha hq hz0 hz j hj
  · have he' : (S.X k).ended = false := by simpa using he
    have e : stepM P S k = takeM P S k (S.X k) 0 (opNew .popReadBottom 0) := by unfold stepM; rw [if_neg he, ha]; exact choose_none q1 q2 q3
    rw [e] at hz ⊢
    rw [take_pre P S k 0 (opNew .popReadBottom 0)] at hz ⊢
    have h1 := idle_pop h hk ha he' ⟨q1, q2, q3⟩
    rw [hasY_take h1 hk (a := 0) (o := opNew .popReadBottom 0) (by rw [pre_at]; rfl) (.inl rfl) ?_ hz j hj]
    · unfold preM
      simp only
      rw [yM_upd]
      exact hasY_set _ (bot_va (by rw [ha]; intro b o g; cases g) (by rw [ha]; intro o g; cases g)) (fun v => rfl) j
    · rw [pre_at]
      rintro (⟨b, o, g, _⟩ | ⟨a, o, g, g2⟩)
      · cases g
      · cases g
        rcases g2 with ⟨g2, _⟩ | g2 <;> cases g2
/-- Who has something keeps it in a quiet step. -/
theorem some_step (h : AllM P S) (hk : k < P.n) (hq : QsM P S k) (hs : hasSome (S.X k)) : hasSome ((stepM P S k).X k) := by
  have hw := h.w k hk
  have none_of : (∀ b, (S.X k).act ≠ .mark b) → (∀ b o, (S.X k).act ≠ .push b o) → (∀ v, (S.X k).act ≠ .open_ v) → ¬ ((S.X k).hands = [] ∧ (S.X k).places = [] ∧ (S.X k).kept = []) := fun n1 n2 n3 ⟨e1, e2, e3⟩ => by
    rcases hs with g | g | g | ⟨b, g⟩ | ⟨b, o, g⟩ | ⟨v, g⟩
    · exact g e1
    · exact g e2
    · exact g e3
    · exact n1 b g
    · exact n2 b o g
    · exact n3 v g
  by_cases he : (S.X k).ended = true
  · have e : stepM P S k = S := by unfold stepM; rw [if_pos he]
    rw [e]; exact hs
  rcases hq with q | ⟨o, ha⟩ | ⟨b, o, ha, hd'⟩ | ⟨a, o, ha, hq⟩ | ⟨ha, q1, q2, q3⟩
  · exact absurd q he
  · exact absurd (hw.offer o ha) (none_of (by rw [ha]; intro b g; cases g) (by rw [ha]; intro b o g; cases g) (by rw [ha]; intro b g; cases g))
  · have e : (stepM P S k).X k = pushedW (S.X k) b (stepOf (P.dq k 0) S.l o).2 := by unfold stepM; rw [if_neg he, ha]; exact updM_at _ _ _
    rw [e]
    unfold pushedW
    rw [if_neg (by rw [hd']; decide)]
    exact .inr (.inr (.inr (.inr (.inl ⟨b, _, rfl⟩))))
  · exact absurd (hw.take a o ha).2 (none_of (by rw [ha]; intro b g; cases g) (by rw [ha]; intro b o g; cases g) (by rw [ha]; intro b g; cases g))
  · exact absurd ⟨q1, q2, q3⟩ (none_of (by rw [ha]; intro b g; cases g) (by rw [ha]; intro b o g; cases g) (by rw [ha]; intro b g; cases g))
end
end Go.Proofs.YtgbclfhgpkmcnaaGreatDoor

/-
  The marker without memory, by turns: while anybody has something a step that isn't quiet comes within 28 rounds ('ev_soonM'). No Go is walked here.
-/
namespace Go.Proofs.YtgbclfhgpkmcnaaGreatDoor
set_option linter.unusedVariables false
set_option linter.unusedSimpArgs false

def runM (P : MP) (S : MS) (L : List Nat) : MS := L.foldl (stepM P) S
/-- All these steps are quiet. -/
def NoEvM (P : MP) : MS → List Nat → Prop
  | _, [] => True
  | S, k :: L => QsM P S k ∧ NoEvM P (stepM P S k) L
theorem run_otherM {P : MP} : ∀ {L : List Nat} {S : MS} {i : Nat}, i ∉ L → (runM P S L).X i = S.X i
  | [], _, _, _ => rfl
  | k :: L, S, i, h => by
    show (runM P (stepM P S k) L).X i = S.X i
    rw [run_otherM (L := L) (fun g => h (by simp [g])), step_other P S (fun e => h (by simp [e]))]
theorem c_runM {P : MP} {W m : Nat} (hW : W < P.n) (hm : m ≤ 5 * (P.n - 1)) : ∀ {L : List Nat} {S : MS}, AllM P S → L.Nodup → (∀ k, k ∈ L → k < P.n ∧ k ≠ W) → NoEvM P S L → ∀ i, i ∈ L →
    cM P.n (relW P.n i W) m ((runM P S L).X i) + (if 0 < inSess (relW P.n i W) (S.X i) then 1 else 0) ≤ cM P.n (relW P.n i W) (m + 1) (S.X i)
  | [], _, _, _, _, _, _, hi => by cases hi
  | k :: L, S, h, hnd, hL, hev, i, hi => by
    show cM P.n (relW P.n i W) m ((runM P (stepM P S k) L).X i) + _ ≤ _
    obtain ⟨hk, hkW⟩ := hL k (by simp)
    obtain ⟨hnk, hnd'⟩ := List.nodup_cons.1 hnd
    rcases List.mem_cons.1 hi with rfl | hi'
    · rw [run_otherM hnk]
      obtain ⟨r1, r2, _⟩ := relW_is hk hW hkW
      exact c_moveM h hk ⟨r1, r2⟩ hev.1 hm
    · have hik : i ≠ k := fun e => hnk (e ▸ hi')
      have := c_runM hW hm (L := L) (h.step hk) hnd' (fun j hj => hL j (by simp [hj])) hev.2 i hi'
      rw [step_other P S hik] at this
      exact this
/-- What all others have left at W's lock. -/
def sumCM (n W m : Nat) (X : Nat → MW) : Nat := sumN (fun i => if i = W then 0 else cM n (relW n i W) m (X i)) n
theorem sumCM_le {n W m : Nat} (hn4 : n ≤ 4) (hW : W < n) (X : Nat → MW) : sumCM n W m X ≤ 5 * (n - 1) := by
  obtain ⟨g, hg⟩ : ∃ g : Nat → Nat, g = fun i => if i = W then 0 else cM n (relW n i W) m (X i) := ⟨_, rfl⟩
  have h5 : ∀ i, g i ≤ 5 := fun i => by
    rw [hg]
    dsimp only
    split
    · omega
    · exact cM_le _ _ _ _
  have hz : g W = 0 := by rw [hg]; simp
  rw [show sumCM n W m X = sumN g n by rw [hg]; rfl]
  clear hg
  have a := h5 0; have b := h5 1; have c := h5 2; have d := h5 3
  have hW4 : W = 0 ∨ W = 1 ∨ W = 2 ∨ W = 3 := by omega
  have hn : n = 1 ∨ n = 2 ∨ n = 3 ∨ n = 4 := by omega
  rcases hn with rfl | rfl | rfl | rfl <;> rcases hW4 with rfl | rfl | rfl | rfl <;> simp only [sumN] <;> omega
theorem sumCM_round {P : MP} {W m : Nat} (hW : W < P.n) (hm : m ≤ 5 * (P.n - 1)) {L : List Nat} {S : MS} (h : AllM P S) (hnd : L.Nodup) (hL : ∀ k, k ∈ L ↔ k < P.n ∧ k ≠ W) (hev : NoEvM P S L) (hh : ∃ i, i < P.n ∧ i ≠ W ∧ hasLM P i W (S.X i) = true) :
    sumCM P.n W m (runM P S L).X + 1 ≤ sumCM P.n W (m + 1) S.X := by
  have hc := c_runM hW hm h hnd (fun k hk => (hL k).1 hk) hev
  obtain ⟨i, hi, hiW, hl⟩ := hh
  obtain ⟨r1, r2, r3, r4⟩ := relW_is hi hW hiW
  have hl' := (has_sess r1 r4 r3 (fun a o g => ((h.w i hi).take a o g).1)).1 hl
  unfold sumCM
  refine sumN_lt hi (fun j hj => ?_) ?_
  · by_cases e : j = W
    · simp [e]
    · simp only [e, if_false]
      have := hc j ((hL j).2 ⟨hj, e⟩)
      omega
  · simp only [hiW, if_false]
    have := hc i ((hL i).2 ⟨hi, hiW⟩)
    rw [if_pos hl'] at this
    exact this

/-- Steps by turns. -/
def ByTurnsM (P : MP) (T : Nat → MS) : Prop := ∀ t, T (t + 1) = stepM P (T t) (t % P.n)
/-- Quiet from a to b. -/
def QuietM (P : MP) (T : Nat → MS) (a b : Nat) : Prop := ∀ t, a ≤ t → t < b → QsM P (T t) (t % P.n)
def turnsL (n t : Nat) : Nat → List Nat
  | 0 => []
  | j + 1 => turnsL n t j ++ [(t + j) % n]
theorem run_snocM (P : MP) (S : MS) (L : List Nat) (k : Nat) : runM P S (L ++ [k]) = stepM P (runM P S L) k := by simp [runM]
theorem noEv_snocM {P : MP} : ∀ {L : List Nat} {S : MS} {k : Nat}, NoEvM P S L → QsM P (runM P S L) k → NoEvM P S (L ++ [k])
  | [], _, _, _, h => ⟨h, trivial⟩
  | j :: L, S, k, h, g => ⟨h.1, noEv_snocM (L := L) h.2 g⟩
theorem run_timeM {P : MP} {T : Nat → MS} (hT : ByTurnsM P T) (t : Nat) : ∀ j, runM P (T t) (turnsL P.n t j) = T (t + j)
  | 0 => rfl
  | j + 1 => by
    show runM P (T t) (turnsL P.n t j ++ [(t + j) % P.n]) = _
    rw [run_snocM, run_timeM hT t j, ← Nat.add_assoc, hT]
theorem noEv_timeM {P : MP} {T : Nat → MS} (hT : ByTurnsM P T) {t b : Nat} : ∀ {j : Nat}, QuietM P T t b → t + j ≤ b → NoEvM P (T t) (turnsL P.n t j)
  | 0, _, _ => trivial
  | j + 1, h, hb => by
    refine noEv_snocM (noEv_timeM hT h (by omega)) ?_
    rw [run_timeM hT]
    exact h (t + j) (by omega) (by omega)
theorem turnsL_mod (n t : Nat) : ∀ j, turnsL n t j = turnsL n (t % n) j
  | 0 => rfl
  | j + 1 => by
    show turnsL n t j ++ [(t + j) % n] = turnsL n (t % n) j ++ [(t % n + j) % n]
    rw [turnsL_mod n t j, Nat.mod_add_mod]
/-- All others, each once. -/
theorem others {n W t : Nat} (hn : 2 ≤ n) (hn4 : n ≤ 4) (hW : t % n = W) : (turnsL n (t + 1) (n - 1)).Nodup ∧ ∀ k, k ∈ turnsL n (t + 1) (n - 1) ↔ k < n ∧ k ≠ W := by
  rw [turnsL_mod, ← Nat.mod_add_mod, hW]
  have hWn : W < n := by rw [← hW]; exact Nat.mod_lt _ (by omega)
  have h4 : n = 2 ∨ n = 3 ∨ n = 4 := by omega
  have hW4 : W = 0 ∨ W = 1 ∨ W = 2 ∨ W = 3 := by omega
  rcases h4 with rfl | rfl | rfl <;> rcases hW4 with rfl | rfl | rfl | rfl <;> first | omega | (refine ⟨by decide, fun k => ?_⟩; simp [turnsL]; omega)

section
variable {P : MP} {T : Nat → MS} {a b : Nat}
theorem all_timeM (hT : ByTurnsM P T) (hn : 1 ≤ P.n) (h : AllM P (T a)) : ∀ d, AllM P (T (a + d))
  | 0 => h
  | d + 1 => by rw [← Nat.add_assoc, hT]; exact (all_timeM hT hn h d).step (Nat.mod_lt _ (by omega))
theorem idle_timeM (hT : ByTurnsM P T) (hn : 1 ≤ P.n) (h : IdleM P (T a)) : ∀ d, IdleM P (T (a + d))
  | 0 => h
  | d + 1 => by rw [← Nat.add_assoc, hT]; exact (idle_timeM hT hn h d).step (Nat.mod_lt _ (by omega))
/-- A worker is as it was till its next turn. -/
theorem same_tillM (hT : ByTurnsM P T) (hn : 1 ≤ P.n) {t W : Nat} (hW : t % P.n = W) : ∀ d, d ≤ P.n - 1 → (T (t + 1 + d)).X W = (T (t + 1)).X W
  | 0, _ => rfl
  | d + 1, hd => by
    rw [← Nat.add_assoc, hT, step_other, same_tillM hT hn hW d (by omega)]
    have e : (t + 1 + d) % P.n = (W + (1 + d)) % P.n := by rw [← hW, Nat.mod_add_mod, Nat.add_assoc]
    have hWn : W < P.n := by rw [← hW]; exact Nat.mod_lt _ (by omega)
    rw [e]
    by_cases g : W + (1 + d) < P.n
    · rw [Nat.mod_eq_of_lt g]; omega
    · rw [Nat.mod_eq_sub_mod (by omega), Nat.mod_eq_of_lt (by omega)]; omega
theorem some_time (hT : ByTurnsM P T) (hn : 1 ≤ P.n) (h : AllM P (T a)) (hq : QuietM P T a b) {i : Nat} (hs : hasSome ((T a).X i)) : ∀ d, a + d ≤ b → hasSome ((T (a + d)).X i)
  | 0, _ => hs
  | d + 1, hd => by
    have hk : (a + d) % P.n < P.n := Nat.mod_lt _ (by omega)
    have hA := all_timeM hT hn h d
    have ih := some_time hT hn h hq hs d (by omega)
    rw [← Nat.add_assoc, hT]
    by_cases e : i = (a + d) % P.n
    · rw [e] at ih ⊢
      exact some_step hA hk (hq _ (by omega) (by omega)) ih
    · rw [step_other _ _ e]
      exact ih
theorem hasY_time (hT : ByTurnsM P T) (hn : 1 ≤ P.n) (h : AllM P (T a)) (hq : QuietM P T a b) {j : Nat} (hj : j < P.n) (f : Int → Int) : ∀ d, a + d + P.n ≤ b → hasY f P (T (a + d)).l (yM P (T (a + d)).X) j = hasY f P (T a).l (yM P (T a).X) j
  | 0, _ => rfl
  | d + 1, hd => by
    have hk : (a + d) % P.n < P.n := Nat.mod_lt _ (by omega)
    have hA := all_timeM hT hn h d
    have hA' := all_timeM hT hn h (d + P.n)
    rw [← Nat.add_assoc, hT, hasY_step hA hk (hq _ (by omega) (by omega)) ?_ j hj]
    · exact hasY_time hT hn h hq hj f d (by omega)
    · intro g
      have e1 : (T (a + (d + P.n))).X ((a + d) % P.n) = (stepM P (T (a + d)) ((a + d) % P.n)).X ((a + d) % P.n) := by
        rw [← hT, ← same_tillM hT hn rfl (P.n - 1) (Nat.le_refl _)]
        congr 2
        omega
      rw [← e1] at g
      have := hq (a + (d + P.n)) (by omega) (by omega)
      rw [show (a + (d + P.n)) % P.n = (a + d) % P.n by rw [← Nat.add_assoc, Nat.add_mod_right]] at this
      exact onWay_evM hA' hk g this
theorem busy_timeM (hT : ByTurnsM P T) (hn : 1 ≤ P.n) (h : AllM P (T a)) (hq : QuietM P T a b) {W : Nat} (hW : W < P.n) (hb : BusyM P (T a) W) (d : Nat) (hd : a + d + P.n ≤ b) : BusyM P (T (a + d)) W := by
  rcases hb with g | g
  · exact .inl (some_time hT hn h hq g d (by omega))
  · exact .inr (by rw [hasY_time hT hn h hq hW oneM d hd]; exact g)
theorem pos_bound {S : MS} {W : Nat} : 1 ≤ posM (S.X W) ∧ posM (S.X W) ≤ 12 := by
  unfold posM
  split
  · rename_i o _; cases o.at_ <;> decide
  · rename_i o _; cases o.at_ <;> decide
  · decide
theorem lock_fiveM {x : MW} (h : atLockM x) : posM x = 5 := by
  obtain ⟨o, g, e⟩ := h
  rcases g with ⟨b, g⟩ | g
  · simp only [posM, g]
    rcases e with e | e <;> rw [e] <;> rfl
  · simp only [posM, g]
    rcases e with e | e <;> rw [e] <;> rfl
theorem sumCM_congr {n W m : Nat} {X Y : Nat → MW} (h : ∀ i, i < n → i ≠ W → X i = Y i) : sumCM n W m X = sumCM n W m Y := by
  unfold sumCM
  have key : ∀ k, k ≤ n → sumN (fun i => if i = W then 0 else cM n (relW n i W) m (X i)) k = sumN (fun i => if i = W then 0 else cM n (relW n i W) m (Y i)) k := by
    intro k
    induction k with
    | zero => intro _; rfl
    | succ k ih =>
      intro hk
      simp only [sumN]
      rw [ih (by omega)]
      by_cases e : k = W
      · simp [e]
      · simp only [e, if_false]
        rw [h k (by omega) e]
  exact key n (Nat.le_refl _)
theorem held_cM {n r m : Nat} {x : MW} (h : 0 < inSess r x) : 1 ≤ cM n r m x := by
  unfold cM
  rw [if_pos h]
  exact h

/-- Who has something is through before long. -/
theorem no_waitM (hT : ByTurnsM P T) (hn : 1 ≤ P.n) (hn4 : P.n ≤ 4) (hA : AllM P (T a)) (hI : IdleM P (T a)) (hq : QuietM P T a b) {W : Nat} (hW : W < P.n) (hb : BusyM P (T a) W) :
    ∀ q d m, (a + d) % P.n = W → a + d + P.n * q < b → m ≤ 5 * (P.n - 1) → posM ((T (a + d)).X W) + m ≤ q → (5 < posM ((T (a + d)).X W) → m = 5 * (P.n - 1)) → (atLockM ((T (a + d)).X W) → sumCM P.n W m (T (a + d)).X ≤ m) → False := by
  intro q
  induction q with
  | zero =>
    intro d m hm hB hm15 hp _ _
    have := (pos_bound (S := T (a + d)) (W := W)).1
    omega
  | succ q ih =>
    intro d m hmod hB hm15 hp h5 hl
    have hnq : P.n * (q + 1) = P.n * q + P.n := Nat.mul_succ P.n q
    have h1 := all_timeM hT hn hA d
    have hI1 := idle_timeM hT hn hI d
    have b1 := busy_timeM hT hn hA hq hW hb d (by omega)
    have b2 := busy_timeM hT hn hA hq hW hb (d + 1) (by omega)
    have hev := hq (a + d) (by omega) (by omega)
    rw [hmod] at hev
    have hst := hT (a + d)
    rw [hmod] at hst
    have hX : (T (a + (d + P.n))).X W = (T (a + d + 1)).X W := by
      have := same_tillM hT hn hmod (P.n - 1) (Nat.le_refl _)
      rw [← this]
      congr 2
      omega
    have hmod' : (a + (d + P.n)) % P.n = W := by rw [← Nat.add_assoc, Nat.add_mod_right]; exact hmod
    have hB' : a + (d + P.n) + P.n * q < b := by omega
    rw [show a + (d + 1) = a + d + 1 by omega, hst] at b2
    rcases busy_moveM h1 hW b1 b2 hev with g | ⟨g1, g2, g3⟩
    · rw [← hst] at g
      refine ih (d + P.n) m hmod' hB' hm15 (by rw [hX]; omega) (fun e => h5 (by rw [hX] at e; omega)) (fun e => ?_)
      have e5 := lock_fiveM e
      rw [hX] at e5
      have hm : m = 5 * (P.n - 1) := h5 (by omega)
      rw [hm]
      exact sumCM_le hn4 hW _
    · obtain ⟨i, hi, hiW, hL⟩ := lock_heldM h1 hI1 hW b1 g2 g3
      have hn2 : 2 ≤ P.n := by omega
      rw [← hst] at g1
      have hs := hl g2
      have e5 := lock_fiveM g2
      have hXo : ∀ i, i ≠ W → (T (a + d + 1)).X i = (T (a + d)).X i := fun i hi => by rw [hst]; exact step_other _ _ hi
      have h1' := all_timeM hT hn hA (d + 1)
      rw [show a + (d + 1) = a + d + 1 by omega] at h1'
      obtain ⟨o1, o2⟩ := others hn2 hn4 hmod
      obtain ⟨r1, r2, r3, r4⟩ := relW_is hi hW hiW
      have hL' := (has_sess r1 r4 r3 (fun a o g => ((h1.w i hi).take a o g).1)).1 hL
      have hm1 : 1 ≤ m := by
        have := sumN_ge (g := fun i => if i = W then 0 else cM P.n (relW P.n i W) m ((T (a + d)).X i)) hi
        simp only [hiW, if_false] at this
        have := held_cM (n := P.n) (m := m) hL'
        unfold sumCM at hs
        omega
      obtain ⟨m', rfl⟩ : ∃ m', m = m' + 1 := ⟨m - 1, by omega⟩
      have hr := sumCM_round (m := m') hW (by omega) h1' o1 o2 (noEv_timeM hT (fun t h1 h2 => hq t (by omega) h2) (by omega)) ⟨i, hi, hiW, by rw [hXo i hiW]; exact hL⟩
      rw [run_timeM hT, sumCM_congr (X := (T (a + d + 1)).X) (Y := (T (a + d)).X) (fun i _ hi => hXo i hi)] at hr
      rw [show a + d + 1 + (P.n - 1) = a + (d + P.n) by omega] at hr
      refine ih (d + P.n) m' hmod' hB' (by omega) (by rw [hX, g1]; omega) (fun e => by rw [hX, g1] at e; omega) (fun _ => by omega)

/-- Somebody has something, or something is on its way. -/
def ActiveM (P : MP) (S : MS) : Prop := ∃ W, W < P.n ∧ (BusyM P S W ∨ onWayM (S.X W))
theorem turn_of (n a : Nat) (hn : 1 ≤ n) (hn4 : n ≤ 4) {W : Nat} (hW : W < n) : ∃ d, d < n ∧ (a + d) % n = W := by
  refine ⟨(W + (n - a % n)) % n, Nat.mod_lt _ (by omega), ?_⟩
  have h4 : n = 1 ∨ n = 2 ∨ n = 3 ∨ n = 4 := by omega
  rcases h4 with rfl | rfl | rfl | rfl <;> omega
theorem till_turn (hT : ByTurnsM P T) (hn4 : P.n ≤ 4) {W d : Nat} (h1 : (a + d) % P.n = W) (h2 : d < P.n) : (T (a + d)).X W = (T a).X W := by
  have hbefore : ∀ e, (∀ c, c < e → (a + c) % P.n ≠ W) → (T (a + e)).X W = (T a).X W := fun e => by
    induction e with
    | zero => intro _; rfl
    | succ e ih =>
      intro h
      rw [← Nat.add_assoc, hT, step_other _ _ (fun g => h e (by omega) g.symm), ih (fun c hc => h c (by omega))]
  refine hbefore d (fun c hc g => ?_)
  have h4 : P.n = 1 ∨ P.n = 2 ∨ P.n = 3 ∨ P.n = 4 := by omega
  rcases h4 with e | e | e | e <;> rw [e] at h1 h2 g <;> omega
/-- While anybody has something, or something is on its way, a step that isn't quiet comes within 28 rounds. -/
theorem ev_soonM (hT : ByTurnsM P T) (hn : 1 ≤ P.n) (hn4 : P.n ≤ 4) (hA : AllM P (T a)) (hI : IdleM P (T a)) (he : ActiveM P (T a)) : ¬ QuietM P T a (a + 28 * P.n + 1) := by
  intro hq
  obtain ⟨W, hW, hb | hw⟩ := he
  · obtain ⟨d, hd, hm⟩ := turn_of P.n a hn hn4 hW
    have h12 := (pos_bound (S := T (a + d)) (W := W)).2
    exact no_waitM hT hn hn4 hA hI hq hW hb 27 d (5 * (P.n - 1)) hm (by omega) (Nat.le_refl _) (by omega) (fun _ => rfl) (fun _ => sumCM_le hn4 hW _)
  · obtain ⟨d, hd, hm⟩ := turn_of P.n a hn hn4 hW
    have h1 := hq (a + d) (by omega) (by omega)
    rw [hm] at h1
    refine onWay_evM (all_timeM hT hn hA d) hW ?_ h1
    rw [till_turn hT hn4 hm hd]
    exact hw
end
end Go.Proofs.YtgbclfhgpkmcnaaGreatDoor

/-
  The marker without memory, once nobody has anything ('CalmS'): it stays so ('calm_step'); each worker's way to an offer from which it doesn't come back ('goM'), which each step makes less, but where it waits for a lock ('go_moveM'). No Go is walked here.
-/
namespace Go.Proofs.YtgbclfhgpkmcnaaGreatDoor
set_option linter.unusedVariables false
set_option linter.unusedSimpArgs false

structure CalmS (P : MP) (S : MS) : Prop where
  some : ∀ k, k < P.n → ¬ hasSome (S.X k)
  deq : ∀ j, j < P.n → hasY oneM P S.l (yM P S.X) j ≤ 0
  way : ∀ k, k < P.n → ¬ onWayM (S.X k)
theorem calm_or (P : MP) (S : MS) : ActiveM P S ∨ CalmS P S := by
  by_cases h : ActiveM P S
  · exact .inl h
  · right
    refine ⟨fun k hk g => h ⟨k, hk, .inl (.inl g)⟩, fun j hj => ?_, fun k hk g => h ⟨k, hk, .inr g⟩⟩
    by_cases g : 0 < hasY oneM P S.l (yM P S.X) j
    · exact absurd ⟨j, hj, .inl (.inr g)⟩ h
    · omega
theorem nothing_of {x : MW} (h : ¬ hasSome x) : (x.hands = [] ∧ x.places = [] ∧ x.kept = []) ∧ (x.act = .choose ∨ (∃ a o, x.act = .take a o) ∨ ∃ o, x.act = .end_ o) := by
  refine ⟨⟨?_, ?_, ?_⟩, ?_⟩
  · cases e : x.hands with
    | nil => rfl
    | cons y ys => exact absurd (.inl (by rw [e]; simp)) h
  · cases e : x.places with
    | nil => rfl
    | cons y ys => exact absurd (.inr (.inl (by rw [e]; simp))) h
  · cases e : x.kept with
    | nil => rfl
    | cons y ys => exact absurd (.inr (.inr (.inl (by rw [e]; simp)))) h
  · cases e : x.act with
    | choose => exact .inl rfl
    | mark b => exact absurd (.inr (.inr (.inr (.inl ⟨b, e⟩)))) h
    | push b o => exact absurd (.inr (.inr (.inr (.inr (.inl ⟨b, o, e⟩))))) h
    | open_ v => exact absurd (.inr (.inr (.inr (.inr (.inr ⟨v, e⟩))))) h
    | take a o => exact .inr (.inl ⟨a, o, rfl⟩)
    | end_ o => exact .inr (.inr ⟨o, rfl⟩)
theorem none_some {x : MW} (h : x.hands = [] ∧ x.places = [] ∧ x.kept = []) (ha : x.act = .choose ∨ (∃ a o, x.act = .take a o) ∨ ∃ o, x.act = .end_ o) : ¬ hasSome x := by
  rintro (g | g | g | ⟨b, g⟩ | ⟨b, o, g⟩ | ⟨v, g⟩)
  · exact g h.1
  · exact g h.2.1
  · exact g h.2.2
  all_goals (rcases ha with e | ⟨a, o, e⟩ | ⟨o, e⟩ <;> rw [e] at g <;> cases g)

section
variable {P : MP} {S : MS} {k : Nat}
theorem take_calm (h : AllM P S) (hk : k < P.n) {a : Nat} {o : OpS} (ha : (S.X k).act = .take a o) (hD : ∀ j, j < P.n → hasY oneM P S.l (yM P S.X) j ≤ 0) (hz : ¬ onWayM (S.X k)) : way false oneM (stepOf (P.dq k a) S.l o).2 ≤ 0 := by
  obtain ⟨i1, i2, i3, i4, i5⟩ := va_take hk ha
  have hO : OpI P k (vaM P k (S.X k)) := (h.v.sh k hk).op i1
  have hd : o.done = false := by rw [← i2]; exact hO.dn
  have eo : actO P S.l k (vaM P k (S.X k)) = (stepOf (P.dq k a) S.l o).2 := by unfold actO; rw [i2, i3]
  have w1 : wayV oneM (vaM P k (S.X k)) = way false oneM o := by
    unfold vaM; rw [ha]; simp only
    split <;> rfl
  have w2 : wayV oneM (withV (vaM P k (S.X k)) (stepOf (P.dq k a) S.l o).2) = way false oneM (stepOf (P.dq k a) S.l o).2 := by
    unfold vaM; rw [ha]; simp only
    split <;> rfl
  have z1 : way false oneM o = 0 := way_zero hd (fun g => hz (.inr ⟨a, o, ha, .inl g⟩)) (fun _ g => hz (.inr ⟨a, o, ha, .inr g⟩))
  obtain ⟨_, a2⟩ := hasY_act (f := oneM) (Y := yM P S.X) (v := vaM P k (S.X k)) h.v.ok h.v.wells rfl hO
  rw [eo, w1, w2, z1] at a2
  have h1 := hD _ hO.dq
  have h2 : 0 ≤ hasY oneM P (actL P S.l k (vaM P k (S.X k))) (updY (yM P S.X) k (withV (vaM P k (S.X k)) (stepOf (P.dq k a) S.l o).2)) (dqV k (vaM P k (S.X k))) := worth_nn (fun _ => by unfold oneM; omega) _ _ _
  omega
theorem way_one {o : OpS} (h : way false oneM o ≤ 0) : ¬ (o.done = true ∧ o.errno = 0) ∧ ¬ (o.at_ = .free ∧ o.errno = 0) ∧ (o.done = false → o.at_ ≠ .popWon) := by
  unfold way at h
  simp only [Bool.false_eq_true, if_false] at h
  refine ⟨fun g => ?_, fun g => ?_, fun hd g => ?_⟩
  · rw [if_pos (.inl ⟨.inl g.1, g.2⟩)] at h
    unfold oneM at h; omega
  · rw [if_pos (.inl ⟨.inr g.1, g.2⟩)] at h
    unfold oneM at h; omega
  · rw [if_pos (.inr ⟨hd, g⟩)] at h
    unfold oneM at h; omega
theorem ask_calm {x : MW} (hn : x.hands = [] ∧ x.places = [] ∧ x.kept = []) {i : Nat} (hi : i ≤ P.n) (hk : k < P.n) : ¬ hasSome (askW P x i) ∧ ¬ onWayM (askW P x i) := by
  rcases ask_cases (k := k) P x i hi hk with ⟨_, e, _⟩ | ⟨_, _, e, _⟩ | ⟨_, _, e, _⟩ <;> rw [e]
  · refine ⟨none_some hn (.inr (.inr ⟨_, rfl⟩)), ?_⟩
    rintro (⟨b, o, g, _⟩ | ⟨a, o, g, g2⟩) <;> cases g
  · refine ⟨none_some hn (.inr (.inl ⟨_, _, rfl⟩)), ?_⟩
    rintro (⟨b, o, g, _⟩ | ⟨a, o, g, g2⟩)
    · cases g
    · cases g
      rcases g2 with ⟨g2, _⟩ | g2 <;> cases g2
  · refine ⟨none_some hn (.inr (.inl ⟨_, _, rfl⟩)), ?_⟩
    rintro (⟨b, o, g, _⟩ | ⟨a, o, g, g2⟩)
    · cases g
    · cases g
      rcases g2 with ⟨g2, _⟩ | g2 <;> cases g2
theorem took_calm {x : MW} (hn : x.hands = [] ∧ x.places = [] ∧ x.kept = []) {a : Nat} {o' : OpS} (hw : way false oneM o' ≤ 0) (ha : a < P.n) (hk : k < P.n) : ¬ hasSome (tookW P x a o') ∧ ¬ onWayM (tookW P x a o') := by
  obtain ⟨w1, w2, w3⟩ := way_one hw
  unfold tookW
  by_cases hd : o'.done = true
  · have he0 : o'.errno ≠ 0 := fun g => w1 ⟨hd, g⟩
    rw [if_pos hd, (val_of hd).1, if_neg he0]
    split
    · exact ask_calm hn (by omega) hk
    · exact ask_calm hn (by omega) hk
  · rw [if_neg hd]
    refine ⟨none_some hn (.inr (.inl ⟨_, _, rfl⟩)), ?_⟩
    rintro (⟨b, o, g, _⟩ | ⟨a, o, g, g2⟩)
    · cases g
    · cases g
      rcases g2 with g2 | g2
      · exact w2 g2
      · exact w3 (by simpa using hd) g2
theorem calm_step (h : AllM P S) (hc : CalmS P S) (hk : k < P.n) : QsM P S k ∧ CalmS P (stepM P S k) := by
  obtain ⟨hn, hact⟩ := nothing_of (hc.some k hk)
  have key : QsM P S k ∧ ¬ hasSome ((stepM P S k).X k) ∧ ¬ onWayM ((stepM P S k).X k) := by
    by_cases he : (S.X k).ended = true
    · have e : stepM P S k = S := by unfold stepM; rw [if_pos he]
      rw [e]
      exact ⟨.inl he, hc.some k hk, hc.way k hk⟩
    have he' : (S.X k).ended = false := by simpa using he
    rcases hact with ha | ⟨a, o, ha⟩ | ⟨o, ha⟩
    · have e : stepM P S k = takeM P S k (S.X k) 0 (opNew .popReadBottom 0) := by unfold stepM; rw [if_neg he, ha]; exact choose_none hn.1 hn.2.1 hn.2.2
      refine ⟨.inr (.inr (.inr (.inr ⟨ha, hn⟩))), ?_⟩
      rw [e, take_X]
      refine took_calm hn (Int.le_of_eq ?_) (by omega) hk
      exact way_zero rfl (fun g => by cases g.1) (fun _ g => by cases g)
    · have hw := take_calm h hk ha hc.deq (hc.way k hk)
      have hal := ((h.w k hk).take a o ha).1
      have e : (stepM P S k).X k = tookW P (S.X k) a (stepOf (P.dq k a) S.l o).2 := by unfold stepM; rw [if_neg he, ha]; exact take_X P S k a o _
      refine ⟨.inr (.inr (.inr (.inl ⟨a, o, ha, ?_⟩))), ?_⟩
      · have := (way_one hw).1
        by_cases g : (stepOf (P.dq k a) S.l o).2.done = true
        · exact .inr (fun g2 => this ⟨g, g2⟩)
        · exact .inl (by simpa using g)
      · rw [e]
        exact took_calm hn hw hal hk
    · have e : (stepM P S k).X k = endedW (S.X k) (stepQ (P.Q k) S.l o).2 := by unfold stepM; rw [if_neg he, ha]; exact updM_at _ _ _
      refine ⟨.inr (.inl ⟨o, ha⟩), ?_⟩
      rw [e]
      unfold endedW
      split
      · exact ⟨none_some hn (.inr (.inr ⟨_, rfl⟩)), by rintro (⟨b, o, g, _⟩ | ⟨a, o, g, g2⟩) <;> cases g⟩
      · split
        · exact ⟨none_some hn (.inl rfl), by rintro (⟨b, o, g, _⟩ | ⟨a, o, g, g2⟩) <;> cases g⟩
        · exact ⟨none_some hn (.inr (.inr ⟨_, rfl⟩)), by rintro (⟨b, o, g, _⟩ | ⟨a, o, g, g2⟩) <;> cases g⟩
  refine ⟨key.1, fun i hi => ?_, fun j hj => ?_, fun i hi => ?_⟩
  · by_cases e : i = k
    · rw [e]; exact key.2.1
    · rw [step_other P S e]; exact hc.some i hi
  · rw [hasY_step h hk key.1 key.2.2 j hj]; exact hc.deq j hj
  · by_cases e : i = k
    · rw [e]; exact key.2.2
    · rw [step_other P S e]; exact hc.way i hi
/-- The tops stay. -/
theorem top_stepM (h : AllM P S) (hc : CalmS P S) (hk : k < P.n) {j : Nat} (hj : j < P.n) : rd (P.cfg j) (stepM P S k).l 0 = rd (P.cfg j) S.l 0 := by
  obtain ⟨hn, hact⟩ := nothing_of (hc.some k hk)
  obtain ⟨hq, hc'⟩ := calm_step h hc hk
  by_cases he : (S.X k).ended = true
  · have e : stepM P S k = S := by unfold stepM; rw [if_pos he]
    rw [e]
  have he' : (S.X k).ended = false := by simpa using he
  have take : ∀ {S : MS} {a : Nat} {o : OpS}, AllM P S → (S.X k).act = .take a o → (∀ j, j < P.n → hasY oneM P S.l (yM P S.X) j ≤ 0) → ¬ onWayM (S.X k) → rd (P.cfg j) (stepOf (P.dq k a) S.l o).1 0 = rd (P.cfg j) S.l 0 := by
    intro S a o h ha hD hz
    obtain ⟨i1, i2, i3, i4, i5⟩ := va_take hk ha
    have hO : OpI P k (vaM P k (S.X k)) := (h.v.sh k hk).op i1
    have hd : o.done = false := by rw [← i2]; exact hO.dn
    have el : actL P S.l k (vaM P k (S.X k)) = (stepOf (P.dq k a) S.l o).1 := by unfold actL; rw [i2, i3]
    obtain ⟨w1, w2, w3⟩ := way_one (take_calm h hk ha hD hz)
    by_cases e : j = dqV k (vaM P k (S.X k))
    · rw [e, i3]
      exact top_op hd (fun g => w3 g.1 g.2) w1
    · have := act_far h.v.ok hO e
      rw [el] at this
      exact congrArg DV.T this
  rcases hact with ha | ⟨a, o, ha⟩ | ⟨o, ha⟩
  · have e : stepM P S k = takeM P S k (S.X k) 0 (opNew .popReadBottom 0) := by unfold stepM; rw [if_neg he, ha]; exact choose_none hn.1 hn.2.1 hn.2.2
    rw [e]
    rfl
  · have e : stepM P S k = takeM P S k (S.X k) a o := by unfold stepM; rw [if_neg he, ha]
    rw [e]
    exact take h ha hc.deq (hc.way k hk)
  · have e : (stepM P S k).l = (stepQ (P.Q k) S.l o).1 := by unfold stepM; rw [if_neg he, ha]
    rw [e]
    exact congrArg DV.T (view_off P j k S.l o)

/-- Nothing lies anywhere. -/
theorem zer_calm (hc : CalmS P S) {j : Nat} (hj : j < P.n) : rd (P.cfg j) S.l 1 ≤ rd (P.cfg j) S.l 0 ∧ rd (P.cfg j) S.l 3 ≤ 0 := by
  have h1 := hc.deq j hj
  unfold hasY worth ringW stackW at h1
  have h2 := sumTo_many (g := fun i => oneM ((viewOf (P.cfg j) S.l).s (spot (P.cfg j).cap ((viewOf (P.cfg j) S.l).T + (i : Int))))) (fun i => Int.le_refl _) (bot (viewOf (P.cfg j) S.l) (partY (yM P S.X) j none) - (viewOf (P.cfg j) S.l).T).toNat
  have h3 := sumTo_many (g := fun i => oneM ((viewOf (P.cfg j) S.l).k i)) (fun i => Int.le_refl _) (viewOf (P.cfg j) S.l).N.toNat
  have key : bot (viewOf (P.cfg j) S.l) (partY (yM P S.X) j none) ≤ (viewOf (P.cfg j) S.l).T ∧ (viewOf (P.cfg j) S.l).N ≤ 0 := by omega
  refine ⟨?_, key.2⟩
  have k1 := key.1
  unfold Proofs.YtgbclfhgpkmcnaaGreatDoor.bot at k1
  have e2 : (viewOf (P.cfg j) S.l).B = rd (P.cfg j) S.l 1 := rfl
  have e3 : (viewOf (P.cfg j) S.l).T = rd (P.cfg j) S.l 0 := rfl
  split at k1 <;> omega

/-- The way to an offer, without waiting; τ: the tops. -/
def goM (n k : Nat) (τ : Nat → Int) (x : MW) : Nat :=
  if x.ended then 0 else
  match x.act with
  | .end_ o => if o.at_ = .countOut then 12 + 11 * n else if o.at_ = .readBottom ∧ o.top < τ ((k + o.k) % n) then 13 + 11 * n else 0
  | .take a o => if a = 0 then posO o.at_ + 11 * n else baseS o.at_ + staleS (τ ((k + a) % n)) o + 11 * (n - 1 - a)
  | _ => 11 + 11 * n
theorem go_ask {x : MW} {τ : Nat → Int} (he : x.ended = false) {i : Nat} (hi : i ≤ P.n) (hk : k < P.n) : goM P.n k τ (askW P x i) = if i = 0 then 11 + 11 * P.n else if i < P.n then 11 + 11 * (P.n - 1 - i) else 0 := by
  rcases ask_cases (k := k) P x i hi hk with ⟨h1, e, _⟩ | ⟨h1, h2, e, _⟩ | ⟨h1, h2, e, _⟩ <;> rw [e]
  · unfold goM
    simp only
    rw [he, if_neg (by decide), if_neg (by decide), if_neg (by simp [ofNew]), if_neg (by omega), if_neg (by omega)]
  · subst h1
    unfold goM
    simp only
    rw [he]
    simp [opNew, posO]
  · unfold goM
    simp only
    rw [he, if_neg (by decide), if_neg (show ¬ i = 0 by omega), if_neg (show ¬ i = 0 by omega), if_pos h2]
    simp [opNew, baseS, staleS]
/-- It waits at a lock. -/
def waitsM (P : MP) (k : Nat) (l : List Int) (x : MW) : Prop := ∃ a o, x.act = .take a o ∧ o.at_ = .takeLock ∧ rd (P.dq k a) l 2 ≠ 0
theorem go_look {n : Nat} {τ : Nat → Int} {x : MW} {Q : QC} {o : OfS} {q : Nat} (he : x.ended = false) : goM n k τ { x with act := .end_ (lookQ Q o q) } = 0 := by
  unfold goM lookQ
  rw [if_neg (by simp [he])]
  simp only
  by_cases g : q = Q.cs.length
  · simp [g]
  · simp [g]
theorem go_moveM (h : AllM P S) (hc : CalmS P S) (hk : k < P.n) (τ : Nat → Int) (hτ : ∀ j, j < P.n → rd (P.cfg j) S.l 0 = τ j) :
    (goM P.n k τ (S.X k) = 0 ∧ goM P.n k τ ((stepM P S k).X k) = 0) ∨ goM P.n k τ ((stepM P S k).X k) < goM P.n k τ (S.X k) ∨ ((stepM P S k).X k = S.X k ∧ waitsM P k S.l (S.X k)) := by
  obtain ⟨hn, hact⟩ := nothing_of (hc.some k hk)
  have hw := h.w k hk
  have hmod : ∀ a, (k + a) % P.n < P.n := fun a => Nat.mod_lt _ (by omega)
  by_cases he : (S.X k).ended = true
  · left
    have e : stepM P S k = S := by unfold stepM; rw [if_pos he]
    rw [e]
    have : goM P.n k τ (S.X k) = 0 := by unfold goM; rw [if_pos he]
    exact ⟨this, this⟩
  have he' : (S.X k).ended = false := by simpa using he
  rcases hact with ha | ⟨a, o, ha⟩ | ⟨o, ha⟩
  · right; left
    have e : stepM P S k = takeM P S k (S.X k) 0 (opNew .popReadBottom 0) := by unfold stepM; rw [if_neg he, ha]; exact choose_none hn.1 hn.2.1 hn.2.2
    have e2 : tookW P (S.X k) 0 (stepOf (P.dq k 0) S.l (opNew .popReadBottom 0)).2 = { S.X k with act := .take 0 (stepOf (P.dq k 0) S.l (opNew .popReadBottom 0)).2 } := rfl
    have e3 : (stepOf (P.dq k 0) S.l (opNew .popReadBottom 0)).2.at_ = .popBottom := rfl
    rw [e, take_X, e2]
    unfold goM
    simp only
    rw [he', ha, e3]
    simp only [posO, Bool.false_eq_true, if_false, if_true]
    omega
  · obtain ⟨i1, i2, i3, i4, i5⟩ := va_take hk ha
    have hal := (hw.take a o ha).1
    have hO : OpI P k (vaM P k (S.X k)) := (h.v.sh k hk).op i1
    have hd : o.done = false := by rw [← i2]; exact hO.dn
    have hki : KindI false o := by rw [← i2, ← i4]; exact hO.kind
    have hei : ErrI false o := by have := hO.err; rw [i2, i4] at this; exact this
    have ht : takeAt o.at_ = true := (hki hd).1
    have her : o.at_ = .free → o.errno = 0 ∨ o.errno = 15 := fun g => by have := hei.2 hd g; simpa using this
    have w0 := take_calm h hk ha hc.deq (hc.way k hk)
    obtain ⟨w1, w2, w3⟩ := way_one w0
    have e : (stepM P S k).X k = tookW P (S.X k) a (stepOf (P.dq k a) S.l o).2 := by unfold stepM; rw [if_neg he, ha]; exact take_X P S k a o _
    have hx : goM P.n k τ (S.X k) = if a = 0 then posO o.at_ + 11 * P.n else baseS o.at_ + staleS (τ ((k + a) % P.n)) o + 11 * (P.n - 1 - a) := by unfold goM; rw [if_neg he, ha]
    have hown : a = 0 → ownerAt o.at_ = true := fun g => by
      subst g
      have hv : yM P S.X k = .pop o := by unfold yM vaM; rw [ha]; rfl
      have := (h.v.wells k hk).kind
      rw [show partY (yM P S.X) k none = o by simp only [partY, hv, ownV]] at this
      exact this hd
    have hthf : a ≠ 0 → thiefAt o.at_ = true := fun g => by
      have hv : yM P S.X k = .steal ((k + a) % P.n) o := by unfold yM vaM; rw [ha]; simp only; rw [if_neg g]
      have := (h.v.wells _ (hmod a)).kinds k
      rw [show partY (yM P S.X) ((k + a) % P.n) (some k) = o by simp only [partY, hv, thfV, if_true]] at this
      exact this hd
    rw [e]
    right
    by_cases hdn : (stepOf (P.dq k a) S.l o).2.done = true
    · left
      have he0 : (stepOf (P.dq k a) S.l o).2.errno ≠ 0 := fun g => w1 ⟨hdn, g⟩
      unfold tookW
      rw [if_pos hdn, (val_of hdn).1, if_neg he0, hx]
      rcases step_fails hd ht her hdn he0 with ⟨f1, f2⟩ | ⟨f1, f2⟩
      · have a0 : a ≠ 0 := fun g => by have := hown g; rw [f1] at this; cases this
        rw [if_pos f2, go_ask he' (by omega) hk, if_neg a0, if_neg a0, if_pos hal, f1]
        have htop : o.top ≠ τ ((k + a) % P.n) := fun e => by
          have e2 : rd (P.dq k a) S.l 0 = o.top := by rw [dq_cfg, hτ _ (hmod a), e]
          obtain ⟨at_, dn, t, u, c, it, en⟩ := o
          simp only at f1 e2 hd
          subst f1 hd
          exact he0 (by simp [stepOf, e2])
        have hst : staleS (τ ((k + a) % P.n)) o = 20 := by unfold staleS; rw [if_pos ⟨.inr (.inr f1), htop⟩]
        rw [hst]
        simp [baseS]
      · rw [if_neg (by omega), go_ask he' (by omega) hk, if_neg (by omega), f1]
        by_cases g : a = 0
        · rw [if_pos g]
          simp only [posO]
          split <;> omega
        · rw [if_neg g]
          have e1 : baseS .free = 1 := rfl
          rw [e1]
          split <;> omega
    · have hdn' : (stepOf (P.dq k a) S.l o).2.done = false := by simpa using hdn
      have e2 : tookW P (S.X k) a (stepOf (P.dq k a) S.l o).2 = { S.X k with act := .take a (stepOf (P.dq k a) S.l o).2 } := by unfold tookW; rw [if_neg hdn]
      have hy : goM P.n k τ { S.X k with act := .take a (stepOf (P.dq k a) S.l o).2 } = if a = 0 then posO (stepOf (P.dq k a) S.l o).2.at_ + 11 * P.n else baseS (stepOf (P.dq k a) S.l o).2.at_ + staleS (τ ((k + a) % P.n)) (stepOf (P.dq k a) S.l o).2 + 11 * (P.n - 1 - a) := by unfold goM; rw [if_neg he]
      rw [e2, hy, hx]
      by_cases g : a = 0
      · rcases pos_step hd (hown g) hdn' with q | ⟨q1, q2, q3⟩
        · left
          rw [if_pos g, if_pos g]
          omega
        · right
          refine ⟨by rw [q1, ← ha], a, o, ha, ?_, q2⟩
          rcases q3 with q3 | q3
          · rw [q3] at ht; cases ht
          · exact q3
      · rcases steal_step (C := P.dq k a) (l := S.l) hd (hthf g) hdn' with q | ⟨q1, q2, q3⟩
        · left
          rw [if_neg g, if_neg g]
          rw [dq_cfg, hτ _ (hmod a), ← dq_cfg] at q
          omega
        · right
          exact ⟨by rw [q1, ← ha], a, o, ha, q3, q2⟩
  · have hv : yM P S.X k = .offer o := by unfold yM vaM; rw [ha]
    have hs : ShV P k (.offer o) := hv ▸ h.v.sh k hk
    have h0 : o.state = 0 := by
      rcases hs.2 with g | g
      · exact g
      · have := hw.ended.2 ⟨o, ha, g⟩
        rw [he'] at this; cases this
    have hq := hs.1
    have hcs : (P.Q k).cs.length = P.n := P.Qlen k
    have hy : (stepM P S k).X k = endedW (S.X k) (stepQ (P.Q k) S.l o).2 := by unfold stepM; rw [if_neg he, ha]; exact updM_at _ _ _
    have hx : goM P.n k τ (S.X k) = if o.at_ = .countOut then 12 + 11 * P.n else if o.at_ = .readBottom ∧ o.top < τ ((k + o.k) % P.n) then 13 + 11 * P.n else 0 := by
      unfold goM; rw [if_neg he, ha]
    have hdq : ∀ q, q < P.n → cOf (P.Q k) q = P.cfg ((k + q) % P.n) := fun q hq => (P.cOf hq).trans (dq_cfg P k q)
    unfold endedW at hy
    obtain ⟨a, st, q, t⟩ := o
    simp only at h0
    subst h0
    cases a
    case countIn =>
      left
      have e : (stepQ (P.Q k) S.l ⟨.countIn, 0, q, t⟩).2 = ⟨.readCount, 0, q, t⟩ := by simp [stepQ]
      rw [e, if_neg (by simp), if_neg (by simp)] at hy
      rw [hy, hx]
      simp [goM, he']
    case readCount =>
      left
      by_cases hcn : cnt (P.Q k) S.l = (P.Q k).n
      · have e : (stepQ (P.Q k) S.l ⟨.readCount, 0, q, t⟩).2 = ⟨.readCount, 2, q, t⟩ := by simp [stepQ, hcn]
        rw [e, if_pos rfl] at hy
        rw [hy, hx]
        simp [goM]
      · have e : (stepQ (P.Q k) S.l ⟨.readCount, 0, q, t⟩).2 = lookQ (P.Q k) ⟨.readCount, 0, q, t⟩ 0 := by simp [stepQ, hcn]
        rw [e, if_neg (by simp [lookQ]), if_neg (by simp [lookQ])] at hy
        rw [hy, hx, go_look he']
        simp
    case readTop =>
      left
      simp only [QOk, hcs] at hq
      have e : (stepQ (P.Q k) S.l ⟨.readTop, 0, q, t⟩).2 = ⟨.readBottom, 0, q, rd (cOf (P.Q k) q) S.l 0⟩ := by simp [stepQ]
      rw [e, if_neg (by simp), if_neg (by simp)] at hy
      rw [hy, hx]
      simp [goM, he', hdq q hq, hτ _ (hmod q)]
    case readBottom =>
      simp only [QOk, hcs] at hq
      have hb := (zer_calm hc (hmod q)).1
      rw [hτ _ (hmod q)] at hb
      by_cases g : t < rd (cOf (P.Q k) q) S.l 1
      · right; left
        have g2 : t < τ ((k + q) % P.n) := by rw [hdq q hq] at g; omega
        have e : (stepQ (P.Q k) S.l ⟨.readBottom, 0, q, t⟩).2 = ⟨.countOut, 0, q, t⟩ := by simp [stepQ, g]
        rw [e, if_neg (by simp), if_neg (by simp)] at hy
        rw [hy, hx]
        simp [goM, he', g2]
      · have e : (stepQ (P.Q k) S.l ⟨.readBottom, 0, q, t⟩).2 = ⟨.readStack, 0, q, t⟩ := by simp [stepQ, g]
        rw [e, if_neg (by simp), if_neg (by simp)] at hy
        rw [hy, hx]
        by_cases g2 : t < τ ((k + q) % P.n)
        · right; left
          simp [goM, he', g2]
          omega
        · left
          simp [goM, he', g2]
    case readStack =>
      left
      simp only [QOk, hcs] at hq
      have hb := (zer_calm hc (hmod q)).2
      have g : ¬ 0 < rd (cOf (P.Q k) q) S.l 3 := by rw [hdq q hq]; omega
      have e : (stepQ (P.Q k) S.l ⟨.readStack, 0, q, t⟩).2 = lookQ (P.Q k) ⟨.readStack, 0, q, t⟩ (q + 1) := by simp [stepQ, g]
      rw [e, if_neg (by simp [lookQ]), if_neg (by simp [lookQ])] at hy
      rw [hy, hx, go_look he']
      simp
    case countOut =>
      right; left
      have e1 : (stepQ (P.Q k) S.l ⟨.countOut, 0, q, t⟩).2.state = 1 := by simp [stepQ]
      rw [if_neg (by rw [e1]; decide), if_pos e1] at hy
      rw [hy, hx]
      unfold goM
      simp only
      rw [he']
      simp
end
end Go.Proofs.YtgbclfhgpkmcnaaGreatDoor

/-
  Texts of the proof, several in one: SlideTake, SlideRead, SlideFill, SlideStore, SlideStep, SlideEq, SlideMade, SlideParts.
-/
import Derived.Test.YtbmlggemheljkaaGreatDoorPack17
import Derived.Laws.EntriesVeiled
import Derived.Deep.RegionHeld3
import Derived.Test.YtbmlggemheljkaaGreatDoorPack14
import Derived.Deep.OwnRows
/-
  A slider's worker: take, read.
-/
namespace Go.Proofs.YtbmlggemheljkaaGreatDoor
open Go.RowKit Bt
set_option linter.unusedVariables false
set_option linter.unusedSimpArgs false

/-- The word that goes to x (0, where there is none). -/
noncomputable def srcN (P : PN) (S : Nat → Nat) (x : Nat) : Nat := @dite _ (∃ s, SrcOf P S x s) (Classical.propDecidable _) (fun h => h.choose) (fun _ => 0)
theorem srcN_eq {P : PN} {S : Nat → Nat} {x s : Nat} (h : SrcOf P S x s) : srcN P S x = s := by
  unfold srcN
  have h0 : ∃ s, SrcOf P S x s := ⟨s, h⟩
  rw [dif_pos h0]
  exact h0.choose_spec.uniq h
section
variable {wb w w' : World} {I : SlI} {P : PN} {S : Nat → Nat} {s : SlS} {v m : Value} {k b : Nat} {x : SlW}
theorem Sl.wblk (h : Sl wb w I P S s v m) (hk : I.ws[k]? = some b) (hx : s.ws[k]? = some x) : w.heap[b]? = some (.cells (wkC b I.sb x) 93) := by
  obtain ⟨b', h1, h2⟩ := h.wk k x hx
  rw [hk] at h1
  cases h1
  exact h2
theorem Sl.wc (h : Sl wb w I P S s v m) (hk : I.ws[k]? = some b) (hx : s.ws[k]? = some x) : w.cell? ⟨b, 0, none⟩ = some (.func (.func (fnOf x.ph)) #[.pointer (some ⟨b, 0, none⟩)] #[]) ∧ w.cell? ⟨b, 1, none⟩ = some (.pointer (some ⟨I.sb, 0, none⟩)) ∧ w.cell? ⟨b, 2, none⟩ = some (.int .i64 (x.rg : Int)) ∧ w.cell? ⟨b, 3, none⟩ = some (.int .i64 (x.x : Int)) ∧ w.cell? ⟨b, 4, none⟩ = some (.int .i64 (x.y : Int)) ∧ w.cell? ⟨b, 5, none⟩ = some (.int .i64 (x.src : Int)) ∧ w.cell? ⟨b, 6, none⟩ = some (.int .i64 x.wd) := by
  have hb := h.wblk hk hx
  refine ⟨?_, ?_, ?_, ?_, ?_, ?_, ?_⟩ <;> (rw [cell_of_heap hb]; rfl)
theorem Sl.wfz (h : Sl wb w I P S s v m) (hk : I.ws[k]? = some b) (hx : s.ws[k]? = some x) (i : Nat) : w.frozen? ⟨b, i, none⟩ = false := by simp [World.frozen?, h.wblk hk hx]
theorem Sl.wlt (h : Sl wb w I P S s v m) (hk : I.ws[k]? = some b) (hx : s.ws[k]? = some x) : b < w.heap.size := lt_of_heap (h.wblk hk hx)
theorem Sl.wne (h : Sl wb w I P S s v m) (hk : I.ws[k]? = some b) (hx : s.ws[k]? = some x) : b ≠ I.sb := ne_of_type (h.wblk hk hx) h.head (by decide)
/-- One store into a worker's cells. -/
theorem Sl.put (h : Sl wb w I P S s v m) (hk : I.ws[k]? = some b) (hx : s.ws[k]? = some x) (i : Nat) (u : Value) (x' : SlW) (he : (wkC b I.sb x).setIfInBounds i u = wkC b I.sb x') : Sl wb (w.setCell ⟨b, i, none⟩ u) I P S { s with ws := s.ws.set k x' } v m :=
  h.setw hk ((Turned.refl [b] w).setCell (p := ⟨b, i, none⟩) (.inl (by simp)) u) (h.wblk hk hx) (by rw [heap_setCell_at _ _ _ _ _ _ (h.wblk hk hx), he])
theorem Sl.wset (h : Sl wb w I P S s v m) (hk : I.ws[k]? = some b) (x' : SlW) : (s.ws.set k x')[k]? = some x' := List.getElem?_set_self (by rw [h.len]; exact (List.getElem?_eq_some_iff.1 hk).1)
theorem cell_put {c : Array Value} {e : TypeId} (hb : w.heap[b]? = some (.cells c e)) {i j : Nat} (hij : i ≠ j) (u : Value) : (w.setCell ⟨b, i, none⟩ u).cell? ⟨b, j, none⟩ = w.cell? ⟨b, j, none⟩ := by
  rw [cell_of_heap (heap_setCell_at _ _ _ _ _ _ hb u), cell_of_heap hb, Array.getElem?_setIfInBounds_ne hij]
end
/-- The step of who has no region. -/
noncomputable def takeS (P : PN) (S : Nat → Nat) (s : SlS) (k : Nat) (x : SlW) : SlS :=
  if s.H.length = 0 then s else { s with H := leastH s.H, ws := s.ws.set k ⟨1, leastV s.H, gF P (leastV s.H), gT P (leastV s.H), srcN P S (gF P (leastV s.H)), x.wd⟩ }

set_option maxHeartbeats 2000000 in
set_option maxRecDepth 100000 in
theorem take_any (wb w : World) (I : SlI) (P : PN) (S : Nat → Nat) (s : SlS) (v m : Value) (k b : Nat) (x : SlW) (h : Sl wb w I P S s v m) (hk : I.ws[k]? = some b) (hx : s.ws[k]? = some x) (hmay : s.H.length ≠ 0 → leastV s.H < P.R ∧ gF P (leastV s.H) < gT P (leastV s.H)) :
    Calls Tryz.prog 58 #[.pointer (some ⟨b, 0, none⟩)] w fun e w' => e = .returned (.tuple #[]) ∧ ∃ v', Sl wb w' I P S (takeS P S s k x) v' m ∧ SOut I v m v' m w w' := by
  have HL := hide h
  have HK := hide hk
  have HX := hide hx
  obtain ⟨-, d1, -⟩ := h.wc hk hx
  have HLe := hide (least_any wb w I P S s v m h)
  by_cases h0 : s.H.length = 0
  · have he : { s with H := leastH s.H } = s := by unfold leastH; rw [if_pos h0]
    unfold takeS
    rw [if_pos h0]
    rw [he, decide_eq_false (by simp [h0])] at HLe
    generalize leastV s.H = z at *
    clear h hk hx hmay he h0
    go_enter Tryz.func58, Tryz.ntmps58
    go_wp2_with fail
    refine (HLe.out).mono ?_
    rintro e1 w1 ⟨rfl, v1, h1, o1⟩
    have HL1 := hide h1
    have HS1 := hide o1
    clear h1 o1 HLe
    go_wp2_with fail
    first | refine bodyPost_end (results_none rfl _ _ _) rfl ?_ | refine bodyPost_ret (results_none rfl _ _ _) rfl ?_
    exact ⟨rfl, v1, HL1.out, HS1.out⟩
  · unfold takeS
    rw [if_neg h0]
    obtain ⟨hr, hg⟩ := hmay h0
    rw [decide_eq_true h0] at HLe
    obtain ⟨r, hre⟩ : ∃ r, r = leastV s.H := ⟨_, rfl⟩
    rw [← hre] at hr hg HLe ⊢
    have HR := hide hr
    have HG0 := hide hg
    obtain ⟨gf, hgf⟩ : ∃ gf, gf = gF P r := ⟨_, rfl⟩
    obtain ⟨gt, hgt⟩ : ∃ gt, gt = gT P r := ⟨_, rfl⟩
    rw [← hgf, ← hgt] at hg ⊢
    have HG := hide hg
    have HGF := hide hgf
    have HGT := hide hgt
    clear hgf hgt
    clear h hk hx hmay h0 hre
    go_enter Tryz.func58, Tryz.ntmps58
    go_wp2_with fail
    refine (HLe.out).mono ?_
    rintro e1 w1 ⟨rfl, v1, h1, o1⟩
    have HL1 := hide h1
    have HS1 := hide o1
    clear h1 o1 HLe HL d1 hr hg
    obtain ⟨-, d1, d2, -⟩ := HL1.out.wc HK.out HX.out
    have f2 := HL1.out.wfz HK.out HX.out 2
    have bl := HL1.out.wlt HK.out HX.out
    go_upto_region 3 with fail
    have HL2 := hide (HL1.out.put HK.out HX.out 2 (.int .i64 (r : Int)) { x with rg := r } rfl)
    have HX2 := hide (HL1.out.wset HK.out { x with rg := r })
    have HS2 := hide (HS1.out.trans (SOut.put (v := v1) (m := m) (w := w1) HK.out 2 (.int .i64 (r : Int))))
    generalize w1.setCell ⟨b, 2, none⟩ (.int .i64 (r : Int)) = w2 at *
    clear HL1 d1 d2 f2 bl
    obtain ⟨-, d1, -⟩ := HL2.out.wc HK.out HX2.out
    obtain ⟨c2, c3, c4, c5, c6, c7, c8, c9, c10⟩ := HL2.out.ps
    have HGo := hide (goal_in P HL2.out.c.fit.ok (slc I.lq P.R) (slc I.aq P.R) (slc I.wq P.R) (slc I.tq P.R) r HR.out w2)
    unfold plC slc at HGo
    have HGp := hide (HL2.out.c.fit.goal HG0.out)
    rw [← HGF.out, ← HGT.out] at HGo HGp
    go_wp2_with fail
    refine (HGo.out).mono ?_
    rintro e1 w3 ⟨rfl, t3⟩
    have HL3 := hide (HL2.out.quiet t3)
    have HS3 := hide (HS2.out.trans (SOut.quiet t3))
    clear t3 HGo HL2 d1 c2 c3 c4 c5 c6 c7 c8 c9 c10
    obtain ⟨-, -, -, d3, d4, -⟩ := HL3.out.wc HK.out HX2.out
    have f3 := HL3.out.wfz HK.out HX2.out 3
    have f4 := HL3.out.wfz HK.out HX2.out 4
    have bl := HL3.out.wlt HK.out HX2.out
    go_upto_region 4 with fail
    have HL4 := hide ((HL3.out.put HK.out HX2.out 3 (.int .i64 (gf : Int)) { x with rg := r, x := gf } rfl).put HK.out (HL3.out.wset HK.out _) 4 (.int .i64 (gt : Int)) { x with rg := r, x := gf, y := gt } rfl)
    have HS4 := hide ((HS3.out.trans (SOut.put (v := v1) (m := m) (w := w3) HK.out 3 (.int .i64 (gf : Int)))).trans (SOut.put HK.out 4 (.int .i64 (gt : Int))))
    generalize (w3.setCell ⟨b, 3, none⟩ (.int .i64 (gf : Int))).setCell ⟨b, 4, none⟩ (.int .i64 (gt : Int)) = w4 at *
    have HX4 : Hid ((((s.ws.set k { x with rg := r }).set k { x with rg := r, x := gf }).set k { x with rg := r, x := gf, y := gt })[k]? = some { x with rg := r, x := gf, y := gt }) := hide (List.getElem?_set_self (by simp; exact (List.getElem?_eq_some_iff.1 HX.out).1))
    clear HL3 d3 d4 f3 f4 bl
    have HSo : Hid (∀ w', Turned [] w4 w' → Calls Tryz.prog 88 #[.agg #[.int .i64 (P.f : Int), .int .i64 (P.t : Int), .int .i64 (P.k : Int), .int .i64 (P.d : Int), .int .i64 (P.e : Int), .slice (some ⟨I.lq, 0, none⟩) P.R P.R, .slice (some ⟨I.aq, 0, none⟩) P.R P.R, .slice (some ⟨I.wq, 0, none⟩) P.R P.R, .slice (some ⟨I.tq, 0, none⟩) P.R P.R], .pointer (some ⟨I.bp, 0, none⟩), .int .i64 (gf : Int)] w' fun e w'' => e = .returned (.int .i64 (srcN P S gf : Nat)) ∧ Turned [] w' w'') := hide (fun w' tt => by
      have hL := HL4.out.quiet tt
      have hf := hL.c.fit
      have h1 := HGp.out
      have h2 := HG.out
      have h3 := hf.et
      have h4 := hf.fd
      have h5 := hf.e_
      refine (source_in (some ⟨I.bp, 0, none⟩) I.N P hf.ok S (slc I.lq P.R) (slc I.wq P.R) (slc I.tq P.R) I.aq P.R gf w' (hL.c.brd hL.t) hL.c.bl (hL.c.pln hL.t).ah (by omega) (by omega) hL.c.tn hf.fd hf.dt).mono ?_
      rintro e w'' ⟨z, rfl, hz, t2⟩
      refine ⟨?_, t2⟩
      rcases hz with ⟨a1, _⟩ | ⟨a1, _⟩ | ⟨a1, sN, b1, b2, b3, b4, rfl⟩ | ⟨a1, a2, _⟩
      · omega
      · omega
      · rw [srcN_eq ⟨b1, b2, b3, b4⟩]
      · omega)
    have HFin : Hid (∀ w', Turned [] w4 w' → w'.cell? ⟨b, 1, none⟩ = some (.pointer (some ⟨I.sb, 0, none⟩)) ∧ w'.cell? ⟨b, 3, none⟩ = some (.int .i64 (gf : Int)) ∧ w'.cell? ⟨b, 5, none⟩ = some (.int .i64 (x.src : Int)) ∧ w'.frozen? ⟨b, 5, none⟩ = false ∧ (∀ u, (w'.setCell ⟨b, 5, none⟩ u).cell? ⟨b, 1, none⟩ = some (.pointer (some ⟨I.sb, 0, none⟩))) ∧ (∀ u, (w'.setCell ⟨b, 5, none⟩ u).cell? ⟨b, 3, none⟩ = some (.int .i64 (gf : Int))) ∧ b < w'.heap.size ∧ b ≠ I.sb) := hide (fun w' tt => by
      have hL := HL4.out.quiet tt
      have hc := hL.wc HK.out HX4.out
      have hb := hL.wblk HK.out HX4.out
      refine ⟨hc.2.1, hc.2.2.2.1, hc.2.2.2.2.2.1, hL.wfz HK.out HX4.out 5, fun u => ?_, fun u => ?_, hL.wlt HK.out HX4.out, hL.wne HK.out HX4.out⟩
      · rw [cell_put hb (by decide)]; exact hc.2.1
      · rw [cell_put hb (by decide)]; exact hc.2.2.2.1)
    have HPs : Hid (∀ w', Turned [] w4 w' → w'.cell? ⟨I.sb, 1, none⟩ = some (.pointer (some ⟨I.bp, 0, none⟩)) ∧ w'.cell? ⟨I.sb, 2, none⟩ = some (.int .i64 (P.f : Int)) ∧ w'.cell? ⟨I.sb, 3, none⟩ = some (.int .i64 (P.t : Int)) ∧ w'.cell? ⟨I.sb, 4, none⟩ = some (.int .i64 (P.k : Int)) ∧ w'.cell? ⟨I.sb, 5, none⟩ = some (.int .i64 (P.d : Int)) ∧ w'.cell? ⟨I.sb, 6, none⟩ = some (.int .i64 (P.e : Int)) ∧ w'.cell? ⟨I.sb, 7, none⟩ = some (.slice (some ⟨I.lq, 0, none⟩) P.R P.R) ∧ w'.cell? ⟨I.sb, 8, none⟩ = some (.slice (some ⟨I.aq, 0, none⟩) P.R P.R) ∧ w'.cell? ⟨I.sb, 9, none⟩ = some (.slice (some ⟨I.wq, 0, none⟩) P.R P.R) ∧ w'.cell? ⟨I.sb, 10, none⟩ = some (.slice (some ⟨I.tq, 0, none⟩) P.R P.R)) := hide (fun w' tt => by
      have hL := HL4.out.quiet tt
      exact ⟨hL.cs.2.1, hL.ps⟩)
    obtain ⟨e1, e3, e5, ef, -, -, eb, en⟩ := HFin.out _ (Turned.refl [] w4).drew
    obtain ⟨p1, p2, p3, p4, p5, p6, p7, p8, p9, p10⟩ := HPs.out _ (Turned.refl [] w4).drew
    have HT4 := hide (Turned.refl [] w4).drew
    go_region_held3 (fun w' => w'.cell? ⟨b, 1, none⟩ = some (.pointer (some ⟨I.sb, 0, none⟩)) ∧ w'.cell? ⟨b, 3, none⟩ = some (.int .i64 (gf : Int)) ∧ w'.cell? ⟨I.sb, 1, none⟩ = some (.pointer (some ⟨I.bp, 0, none⟩)) ∧ w'.cell? ⟨I.sb, 2, none⟩ = some (.int .i64 (P.f : Int)) ∧ w'.cell? ⟨I.sb, 3, none⟩ = some (.int .i64 (P.t : Int)) ∧ w'.cell? ⟨I.sb, 4, none⟩ = some (.int .i64 (P.k : Int)) ∧ w'.cell? ⟨I.sb, 5, none⟩ = some (.int .i64 (P.d : Int)) ∧ w'.cell? ⟨I.sb, 6, none⟩ = some (.int .i64 (P.e : Int)) ∧ w'.cell? ⟨I.sb, 7, none⟩ = some (.slice (some ⟨I.lq, 0, none⟩) P.R P.R) ∧ w'.cell? ⟨I.sb, 8, none⟩ = some (.slice (some ⟨I.aq, 0, none⟩) P.R P.R) ∧ w'.cell? ⟨I.sb, 9, none⟩ = some (.slice (some ⟨I.wq, 0, none⟩) P.R P.R) ∧ w'.cell? ⟨I.sb, 10, none⟩ = some (.slice (some ⟨I.tq, 0, none⟩) P.R P.R)) (first | go_keep | (dsimp only; refine ⟨?_, ?_, ?_, ?_, ?_, ?_, ?_, ?_, ?_, ?_, ?_, ?_⟩ <;> first | go_keep | exact SB1 _ | exact SB3 _))
      (first
        | (go_at_call 88; refine (HSo.out _ HT4.out).mono ?_; rintro e w5 ⟨rfl, t5⟩; have HT5 := hide (HT4.out.trans t5); obtain ⟨y1, y3, y5, yf, SB1, SB3, yb, yn⟩ := HFin.out _ HT5.out; obtain ⟨z1, z2, z3, z4, z5, z6, z7, z8, z9, z10⟩ := HPs.out _ HT5.out; clear t5))
    have HL6 := hide ((HL4.out.quiet HT5.out).put HK.out HX4.out 5 (.int .i64 (srcN P S gf : Nat)) { x with rg := r, x := gf, y := gt, src := srcN P S gf } rfl)
    have HX6 := hide ((HL4.out.quiet HT5.out).wset HK.out { x with rg := r, x := gf, y := gt, src := srcN P S gf })
    have HS6 := hide ((HS4.out.trans (SOut.quiet HT5.out)).trans (SOut.put HK.out 5 (.int .i64 (srcN P S gf : Nat))))
    generalize w5.setCell ⟨b, 5, none⟩ (.int .i64 (srcN P S gf : Nat)) = w6 at *
    clear HL4 HX4 HSo HFin HPs e1 e3 e5 ef eb en p1 p2 p3 p4 p5 p6 p7 p8 p9 p10 y1 y3 y5 yf SB1 SB3 yb yn z1 z2 z3 z4 z5 z6 z7 z8 z9 z10 HT4 HT5
    obtain ⟨d0, -⟩ := HL6.out.wc HK.out HX6.out
    have f0 := HL6.out.wfz HK.out HX6.out 0
    have bl := HL6.out.wlt HK.out HX6.out
    have HL7 := hide (HL6.out.put HK.out HX6.out 0 (.func (.func 89) #[.pointer (some ⟨b, 0, none⟩)] #[]) ⟨1, r, gf, gt, srcN P S gf, x.wd⟩ rfl)
    go_wp2_with fail
    first | refine bodyPost_end (results_none rfl _ _ _) rfl ?_ | refine bodyPost_ret (results_none rfl _ _ _) rfl ?_
    refine ⟨rfl, v1, ?_, HS6.out.trans (SOut.put HK.out 0 _)⟩
    have h9 := HL7.out
    simp only [List.set_set] at h9
    exact h9
end Go.Proofs.YtbmlggemheljkaaGreatDoor

/-
  A slider's worker: read; the moves that are told; liveFrom.
-/
namespace Go.Proofs.YtbmlggemheljkaaGreatDoor
open Go.RowKit Bt
set_option linter.unusedVariables false
set_option linter.unusedSimpArgs false

def readS (s : SlS) (k : Nat) (x : SlW) : SlS := { s with ac := wrap64 (s.ac + 1), ws := s.ws.set k ⟨2, x.rg, x.x, x.y, x.src, s.hw.getD x.src 0⟩ }
set_option maxHeartbeats 2000000 in
set_option maxRecDepth 100000 in
theorem read_any (wb w : World) (I : SlI) (P : PN) (S : Nat → Nat) (s : SlS) (v m : Value) (k b : Nat) (x : SlW) (h : Sl wb w I P S s v m) (hk : I.ws[k]? = some b) (hx : s.ws[k]? = some x) (hsrc : x.src < s.hw.length) :
    Calls Tryz.prog 89 #[.pointer (some ⟨b, 0, none⟩)] w fun e w' => e = .returned (.tuple #[]) ∧ Sl wb w' I P S (readS s k x) v m ∧ SOut I v m v m w w' := by
  have HL := hide h
  have HK := hide hk
  have HX := hide hx
  obtain ⟨wd, hwd⟩ : ∃ wd, wd = s.hw.getD x.src 0 := ⟨_, rfl⟩
  have hget : s.hw[x.src]? = some wd := by rw [hwd, List.getD_eq_getElem?_getD, List.getElem?_eq_getElem hsrc]; rfl
  have HGet := hide hget
  unfold readS
  rw [← hwd]
  have HLd : Hid (∀ w', Turned [] w w' → Calls Tryz.prog 99 #[.pointer (some ⟨I.cp, 0, none⟩), .int .i64 (x.src : Int)] w' fun e w'' => e = .returned (.tuple #[.int .i64 wd, .int .i64 0]) ∧ Sl wb w'' I P S { s with ac := wrap64 (s.ac + 1) } v m ∧ SOut I v m v m w w'') := hide (fun w' tt => (load_in I.cp I.cq s.hw s.ac w' x.src wd HGet.out (HL.out.quiet tt).mem).mono (by
    rintro e w'' ⟨rfl, h1, t1⟩
    exact ⟨rfl, (HL.out.quiet tt).acc h1 t1, (SOut.quiet tt).trans (SOut.acc t1)⟩))
  have HFin : Hid (∀ w' (s' : SlS), Sl wb w' I P S s' v m → s'.ws = s.ws → w'.cell? ⟨b, 1, none⟩ = some (.pointer (some ⟨I.sb, 0, none⟩)) ∧ w'.cell? ⟨b, 5, none⟩ = some (.int .i64 (x.src : Int)) ∧ w'.cell? ⟨I.sb, 0, none⟩ = some (.pointer (some ⟨I.cp, 0, none⟩)) ∧ w'.cell? ⟨b, 6, none⟩ = some (.int .i64 x.wd) ∧ w'.frozen? ⟨b, 6, none⟩ = false ∧ (∀ u, (w'.setCell ⟨b, 6, none⟩ u).cell? ⟨b, 1, none⟩ = some (.pointer (some ⟨I.sb, 0, none⟩))) ∧ (∀ u, (w'.setCell ⟨b, 6, none⟩ u).cell? ⟨b, 5, none⟩ = some (.int .i64 (x.src : Int))) ∧ b < w'.heap.size ∧ b ≠ I.sb) := hide (fun w' s' hL hs => by
    have hx' : s'.ws[k]? = some x := by rw [hs]; exact HX.out
    have hc := hL.wc HK.out hx'
    have hb := hL.wblk HK.out hx'
    refine ⟨hc.2.1, hc.2.2.2.2.2.1, hL.cs.1, hc.2.2.2.2.2.2, hL.wfz HK.out hx' 6, fun u => ?_, fun u => ?_, hL.wlt HK.out hx', hL.wne HK.out hx'⟩
    · rw [cell_put hb (by decide)]; exact hc.2.1
    · rw [cell_put hb (by decide)]; exact hc.2.2.2.2.2.1)
  clear h hk hx hsrc hwd hget
  obtain ⟨e1, e5, es, e6, ef, -, -, eb, en⟩ := HFin.out _ s (HL.out.quiet (Turned.refl [] w).drew) rfl
  have HT := hide (Turned.refl [] w).drew
  go_enter Tryz.func89, Tryz.ntmps89
  go_wp2_with fail
  go_region_held3 (fun w' => w'.cell? ⟨b, 1, none⟩ = some (.pointer (some ⟨I.sb, 0, none⟩)) ∧ w'.cell? ⟨b, 5, none⟩ = some (.int .i64 (x.src : Int)) ∧ w'.cell? ⟨I.sb, 0, none⟩ = some (.pointer (some ⟨I.cp, 0, none⟩))) (first | go_keep | (dsimp only; refine ⟨?_, ?_, ?_⟩ <;> first | go_keep | exact SB1 _ | exact SB5 _))
    (first
      | (go_at_call 99; refine (HLd.out _ HT.out).mono ?_; rintro e w2 ⟨rfl, h2, o2⟩; have HL2 := hide h2; have HS2 := hide o2; clear o2; obtain ⟨y1, y5, ys, y6, yf, SB1, SB5, yb, yn⟩ := HFin.out _ _ HL2.out rfl; clear h2))
  have HX2 : Hid (({ s with ac := wrap64 (s.ac + 1) } : SlS).ws[k]? = some x) := hide HX.out
  have HL3 := hide (HL2.out.put HK.out HX2.out 6 (.int .i64 wd) { x with wd := wd } rfl)
  have HX3 := hide (HL2.out.wset HK.out { x with wd := wd })
  have HS3 := hide (HS2.out.trans (SOut.put HK.out 6 (.int .i64 wd)))
  generalize w2.setCell ⟨b, 6, none⟩ (.int .i64 wd) = w3 at *
  clear HL2 HLd HFin e1 e5 es e6 ef eb en y1 y5 ys y6 yf SB1 SB5 yb yn HT HL
  obtain ⟨d0, -⟩ := HL3.out.wc HK.out HX3.out
  have f0 := HL3.out.wfz HK.out HX3.out 0
  have bl := HL3.out.wlt HK.out HX3.out
  have HL4 := hide (HL3.out.put HK.out HX3.out 0 (.func (.func 100) #[.pointer (some ⟨b, 0, none⟩)] #[]) ⟨2, x.rg, x.x, x.y, x.src, wd⟩ rfl)
  go_wp2_with fail
  first | refine bodyPost_end (results_none rfl _ _ _) rfl ?_ | refine bodyPost_ret (results_none rfl _ _ _) rfl ?_
  refine ⟨rfl, ?_, HS3.out.trans (SOut.put HK.out 0 _)⟩
  have h9 := HL4.out
  simp only [List.set_set] at h9
  exact h9

/-- A move more. -/
theorem Sl.moved {wb w w' : World} {I : SlI} {P : PN} {S : Nat → Nat} {s : SlS} {v m m' : Value} (h : Sl wb w I P S s v m) (t : Turned m.ownBlock.toList w w') (a c : Nat) (ho : w'.ownsRow I.B 46 2 m' (s.mv.length + 1) (mvRow s.mv ++ [.int .i64 (a : Int), .int .i64 (c : Int)])) : Sl wb (w'.setCell ⟨I.sb, 15, none⟩ m') I P S { s with mv := s.mv ++ [(a, c)] } v m' := by
  have hT : ∀ e : TypeId, e ≠ 46 → ∀ i, i ∈ m.ownBlock.toList → ∃ c' e' fr, w.heap[i]? = some (.cells c' e' fr) ∧ e' ≠ e := by
    intro e h1 i hi
    obtain ⟨_, _, c2, hc2⟩ := ownsRow_lt h.mv i (by simpa using hi)
    exact ⟨_, _, _, hc2, fun e => h1 e.symm⟩
  have hh := keep_ty t h.head (hT _ (by decide))
  have t2 : Turned [I.sb] w' (w'.setCell ⟨I.sb, 15, none⟩ m') := (Turned.refl [I.sb] w').setCell (p := ⟨I.sb, 15, none⟩) (.inl (by simp)) m'
  have hS : ∀ e : TypeId, e ≠ 81 → ∀ i, i ∈ [I.sb] → ∃ c' e' fr, w'.heap[i]? = some (.cells c' e' fr) ∧ e' ≠ e := by
    intro e h1 i hi
    simp at hi
    subst hi
    exact ⟨_, _, _, hh, fun e => h1 e.symm⟩
  have kk : ∀ {x : Nat} {c : Array Value} {e : TypeId}, e ≠ 46 → e ≠ 81 → w.heap[x]? = some (.cells c e) → (w'.setCell ⟨I.sb, 15, none⟩ m').heap[x]? = some (.cells c e) := fun {x c e} h1 h2 hx => keep_ty t2 (keep_ty t hx (hT _ h1)) (hS _ h2)
  have ko : ∀ {B : Nat} {e : TypeId} {size : Nat} {u : Value} {n : Nat} {xs : List Value}, e ≠ 46 → e ≠ 81 → w.ownsRow B e size u n xs → (w'.setCell ⟨I.sb, 15, none⟩ m').ownsRow B e size u n xs := fun h1 h2 hx => own_ty (own_ty hx t (hT _ h1)) t2 (hS _ h2)
  have hts : Turned [I.cp, I.cq] wb (w'.setCell ⟨I.sb, 15, none⟩ m') := by
    refine (h.t.trans_new t (fun i hi => .inr ?_)).trans_new t2 (by simp; exact .inr h.nsb)
    have := (ownsRow_lt h.mv i (by simpa using hi)).1
    have := h.nB
    omega
  refine ⟨h.c, hts, ⟨h.mem.ne, kk (by decide) (by decide) h.mem.head, kk (by decide) (by decide) h.mem.row⟩, ?_, ⟨kk (by decide) (by decide) h.ln.head, ko (by decide) (by decide) h.ln.row, h.ln.few, Nat.le_trans h.ln.base (Nat.le_trans t.size t2.size)⟩, ?_, h.zB, kk (by decide) (by decide) h.row, h.len, fun i x hx => ?_, h.nd, ?_, h.nsb, h.nlb, h.nzq, h.nws, h.nB⟩
  · rw [heap_setCell_at _ _ _ _ _ _ hh]; rfl
  · obtain ⟨cz, hcz, h1⟩ := h.zw
    exact ⟨cz, kk (by decide) (by decide) hcz, h1⟩
  · obtain ⟨b, h1, h2⟩ := h.wk i x hx
    exact ⟨b, h1, kk (by decide) (by decide) h2⟩
  · have := own_ty ho t2 (hS _ (by decide))
    simpa [mvRow_snoc] using this

theorem begs_of {n : Nat} {S : Nat → Nat} (h : Bl n S) {a k : Nat} (ha : a < k) (h1 : live S a = false) (h2 : live S k = true) (h3 : ∀ j, a ≤ j → j < k → live S j = false) : begs S k = true := by
  unfold live at h2
  rw [bo_true] at h2
  obtain ⟨c, hc⟩ := h2
  unfold Cov at hc
  by_cases hck : c = k
  · subst hck
    unfold begs
    rw [decide_eq_true]
    omega
  · have h4 := h3 (k - 1) (by omega) (by omega)
    unfold live at h4
    rw [bo_false] at h4
    exact absurd ⟨c, by omega, by omega⟩ h4
set_option maxHeartbeats 1000000 in
set_option maxRecDepth 100000 in
theorem livefrom_any (wb w : World) (I : SlI) (P : PN) (S : Nat → Nat) (s : SlS) (v m : Value) (x y z : Nat) (h : Sl wb w I P S s v m) (hy : SrcOf P S x y) (hz : SrcOf P S (x + 1) z) (hxd : P.d ≤ x) :
    Calls Tryz.prog 111 #[.pointer (some ⟨I.sb, 0, none⟩), .int .i64 ((y : Int) + 1)] w fun e w' => e = .returned (.int .i64 (z : Int)) ∧ Turned [] w w' := by
  have hb := h.c.brd h.t
  have hbl := h.c.bl
  have htn := h.c.tn
  have hN := hb.few
  obtain ⟨a1, a2, a3, a4⟩ := hy
  obtain ⟨b1, b2, b3, b4⟩ := hz
  have hyz : y < z := by
    by_cases hh : y < z
    · exact hh
    · have := cnt_mono (live S) (show z ≤ y by omega)
      omega
  have hdead : ∀ j, y + 1 ≤ j → j < z → live S j = false := fun j h1 h2 => by
    by_cases hl : live S j = true
    · have k1 := cnt_mono (live S) (show y + 1 ≤ j by omega)
      have k2 := cnt_mono (live S) (show j + 1 ≤ z by omega)
      rw [cnt_at a3] at k1
      rw [cnt_at hl] at k2
      omega
    · simpa using hl
  have HO := hide (over_any (some ⟨I.bp, 0, none⟩) I.N S ((y : Int) + 1) w hb hbl)
  have HNx := hide (fun (w' : World) (tt : Turned [] w w') => next_any (some ⟨I.bp, 0, none⟩) I.N (sidesOf S) ((y : Int) + 1) (P.t : Int) w' (hb.turned tt))
  have hkp1 : kp I.N ((y : Int) + 1) = y + 1 := by unfold kp; omega
  have hkp2 : kp I.N (P.t : Int) = P.t := by unfold kp; omega
  have HRes : Hid (∀ r : Int, live S (y + 1) = false → IsNext (sidesOf S 0) (kp I.N ((y : Int) + 1)) (kp I.N (P.t : Int)) r → r = (z : Int)) := hide (fun r hdd hr => by
    rw [hkp1, hkp2] at hr
    have hyz2 : y + 1 < z := by
      rcases Nat.lt_or_ge (y + 1) z with hh | hh
      · exact hh
      · have : z = y + 1 := by omega
        rw [this, hdd] at b3; cases b3
    have hbg : begs S z = true := begs_of hbl hyz2 hdd b3 hdead
    have hs0 : sidesOf S 0 = begs S := rfl
    rw [hs0] at hr
    rcases hr with ⟨_, h2⟩ | ⟨kk, rfl, h2, h3, h4, h5⟩
    · rw [h2 z (by omega) b2] at hbg; cases hbg
    · have hlk : live S kk = true := by
        unfold begs at h4
        rw [decide_eq_true_eq] at h4
        unfold live
        rw [bo_true]
        exact ⟨kk, Nat.le_refl _, by omega⟩
      rcases Nat.lt_trichotomy kk z with h6 | h6 | h6
      · rw [hdead kk h2 h6] at hlk; cases hlk
      · rw [h6]
      · rw [h5 z (by omega) h6] at hbg; cases hbg)
  have HLi : Hid (∀ (a zz : Int) (t : Bool), IsOver S ((y : Int) + 1) a zz t → (t = true ∧ z = y + 1) ∨ (t = false ∧ live S (y + 1) = false)) := hide (fun a zz t hv => by
    rcases hv with ⟨kk, j, hj, hcv, rfl, rfl, rfl⟩ | ⟨hno, rfl, rfl, rfl⟩
    · left
      refine ⟨rfl, ?_⟩
      have hj2 : j = y + 1 := by omega
      subst hj2
      rcases Nat.lt_or_ge (y + 1) z with hh | hh
      · have := hdead (y + 1) (Nat.le_refl _) hh
        unfold live at this
        rw [bo_false] at this
        exact absurd ⟨kk, hcv⟩ this
      · omega
    · right
      refine ⟨rfl, ?_⟩
      unfold live
      rw [bo_false]
      rintro ⟨kk, hcv⟩
      exact hno kk (y + 1) (by omega) hcv)
  obtain ⟨-, c1, -⟩ := h.cs
  obtain ⟨-, c3, -⟩ := h.ps
  have HL := hide h
  clear h hb hbl htn hN a1 a2 a3 a4 b1 b2 b3 b4 hyz hdead hkp1 hkp2 hxd
  go_enter Tryz.func111, Tryz.ntmps111
  go_wp2_with fail
  refine (HO.out).mono ?_
  rintro e1 w1 ⟨a, zz, t, rfl, hov, mm, hw1⟩
  have ht1 : Turned [] w w1 := by rw [hw1]; exact (Turned.refl [] w).drewN mm
  have HT1 := hide ht1
  clear ht1 hw1 HO c1 c3
  rcases HLi.out a zz t hov with ⟨rfl, rfl⟩ | ⟨rfl, hdd⟩
  · clear hov HLi HRes HNx
    go_wp2_with fail
    go_ret
    exact ⟨by simp, HT1.out⟩
  · have HDD := hide hdd
    clear hov HLi hdd
    obtain ⟨-, c1, -⟩ := (HL.out.quiet HT1.out).cs
    obtain ⟨-, c3, -⟩ := (HL.out.quiet HT1.out).ps
    have HT2 := hide HT1.out.drew
    have j1 := (HL.out.quiet HT2.out).cs.2.1
    have j3 := (HL.out.quiet HT2.out).ps.2.1
    go_wp2_with fail
    go_region_held3 (fun w' => w'.cell? ⟨I.sb, 1, none⟩ = some (.pointer (some ⟨I.bp, 0, none⟩)) ∧ w'.cell? ⟨I.sb, 3, none⟩ = some (.int .i64 (P.t : Int))) (go_keep)
      (first
        | (go_at_call 116; refine (HNx.out _ HT2.out).mono ?_; rintro e w3 ⟨r, rfl, hr, m3, hw3⟩; have hrz := HRes.out r HDD.out hr; subst hrz; have ht3 : Turned [] w w3 := (by rw [hw3]; exact HT2.out.drewN m3); have HT3 := hide ht3; have y1 := (HL.out.quiet HT3.out).cs.2.1; have y3 := (HL.out.quiet HT3.out).ps.2.1; clear hr hw3 ht3))
    go_wp2_with fail
    go_ret
    exact ⟨rfl, HT3.out⟩
end Go.Proofs.YtbmlggemheljkaaGreatDoor

/-
  A slider: filled.
-/
namespace Go.Proofs.YtbmlggemheljkaaGreatDoor
open Go.RowKit Bt
set_option linter.unusedVariables false
set_option linter.unusedSimpArgs false

section
variable {wb w w1 w2 : World} {I : SlI} {P : PN} {S : Nat → Nat} {s : SlS} {v m v' m' : Value}
theorem Sl.own_lt (h : Sl wb w I P S s v m) : ∀ i, i ∈ OwnS I v m → i < w.heap.size := by
  intro i hi
  unfold OwnS at hi
  simp only [List.mem_cons, List.mem_append, Option.mem_toList] at hi
  rcases hi with rfl | rfl | rfl | rfl | rfl | (hi | hi) | hi
  · exact lt_of_heap h.head
  · exact lt_of_heap h.ln.head
  · exact h.zw.lt
  · exact h.mem.ltp
  · exact h.mem.ltq
  · obtain ⟨k, hk⟩ := List.getElem?_of_mem hi
    have hlt : k < s.ws.length := by rw [h.len]; exact (List.getElem?_eq_some_iff.1 hk).1
    exact lt_of_heap (h.wblk hk (List.getElem?_eq_getElem hlt))
  · exact (ownsRow_lt h.ln.row i hi).2.1
  · exact (ownsRow_lt h.mv i hi).2.1
theorem SOut.keep (o : SOut I v m v' m' w1 w2) (h : Sl wb w I P S s v m) {x : Nat} (hx : w.heap.size ≤ x) (hx1 : x < w1.heap.size) : w2.heap[x]? = w1.heap[x]? :=
  o.t.block x hx1 (fun hm => by have := h.own_lt x hm; omega)
end
theorem pushL_len (H : List Nat) (x : Nat) : (pushL H x).length = H.length + 1 := by unfold pushL; rw [upL_len]; simp
theorem lineS_wt (P : PN) (s : SlS) (r : Nat) : (lineS P s r).wt = s.wt := by unfold lineS; split <;> rfl
theorem lineS_left (P : PN) (s : SlS) (r : Nat) : (lineS P s r).left = s.left := by unfold lineS; split <;> rfl
theorem lineS_len (P : PN) (s : SlS) (r : Nat) : (lineS P s r).H.length ≤ s.H.length + 1 := by
  unfold lineS
  split
  · show (pushL s.H r).length ≤ _; rw [pushL_len]; omega
  · omega
/-- One of the regions out of which the region r takes words. -/
def fillOne (P : PN) (L : Nat → Bool) (r : Nat) (s : SlS) (o : Nat) : SlS := if o ≠ r ∧ 0 < lvR P L o then lineS P { s with wt := fun i => if i = o then s.wt o - 1 else s.wt i } o else s
def fillR (P : PN) (L : Nat → Bool) (r : Nat) (s : SlS) (a : Nat) : Nat → SlS
  | 0 => s
  | n + 1 => fillOne P L r (fillR P L r s a n) (a + n)
theorem fillOne_wt (P : PN) (L : Nat → Bool) (r : Nat) (s : SlS) (o i : Nat) (h : i ≠ o) : (fillOne P L r s o).wt i = s.wt i := by
  unfold fillOne
  split
  · rw [lineS_wt]; show (if i = o then _ else s.wt i) = _; rw [if_neg h]
  · rfl
theorem fillOne_len (P : PN) (L : Nat → Bool) (r : Nat) (s : SlS) (o : Nat) : (fillOne P L r s o).H.length ≤ s.H.length + 1 := by
  unfold fillOne
  split
  · exact lineS_len _ _ _
  · omega
theorem fillR_wt (P : PN) (L : Nat → Bool) (r : Nat) (s : SlS) (a : Nat) : ∀ (n i : Nat), a + n ≤ i → (fillR P L r s a n).wt i = s.wt i := by
  intro n
  induction n with
  | zero => intro i _; rfl
  | succ n ih => intro i hi; show (fillOne P L r (fillR P L r s a n) (a + n)).wt i = _; rw [fillOne_wt _ _ _ _ _ _ (by omega), ih i (by omega)]
theorem fillR_len (P : PN) (L : Nat → Bool) (r : Nat) (s : SlS) (a : Nat) : ∀ n, (fillR P L r s a n).H.length ≤ s.H.length + n := by
  intro n
  induction n with
  | zero => exact Nat.le_refl _
  | succ n ih => have := fillOne_len P L r (fillR P L r s a n) (a + n); show (fillOne P L r (fillR P L r s a n) (a + n)).H.length ≤ _; omega
/-- A region is filled. -/
def fillS (P : PN) (L : Nat → Bool) (s : SlS) (r : Nat) : SlS := fillR P L r { s with left := s.left - 1 } (tkR P L r 0).toNat ((tkR P L r 1) - (tkR P L r 0)).toNat
/-- What filled asks. -/
structure MayF (P : PN) (L : Nat → Bool) (s : SlS) (r a n : Nat) : Prop where
  r_ : r < P.R
  l_ : 1 ≤ s.left
  l6 : s.left ≤ 1000000
  t0 : tkR P L r 0 = (a : Nat)
  t1 : tkR P L r 1 = (a + n : Nat)
  an : a + n ≤ P.R
  w_ : ∀ o, a ≤ o → o < a + n → o ≠ r → 0 < lvR P L o → 1 ≤ s.wt o
  w6 : ∀ o, s.wt o ≤ 1000000
  h_ : s.H.length + P.R < 65536

set_option maxHeartbeats 2000000 in
set_option maxRecDepth 100000 in
theorem filled_any (wb w : World) (I : SlI) (P : PN) (S : Nat → Nat) (s : SlS) (v m : Value) (r a n : Nat) (h : Sl wb w I P S s v m) (hm : MayF P (live S) s r a n) :
    Calls Tryz.prog 110 #[.pointer (some ⟨I.sb, 0, none⟩), .int .i64 (r : Int)] w fun e w' => e = .returned (.tuple #[]) ∧ ∃ v', Sl wb w' I P S (fillS P (live S) s r) v' m ∧ SOut I v m v' m w w' := by
  have HL := hide h
  have HM := hide hm
  have hl1 := hm.l_
  have hl6 := hm.l6
  have hri : (r : Int) < (P.R : Int) := by have := hm.r_; omega
  have hR6 := PN.R_few h.c.fit.ok
  have han := hm.an
  obtain ⟨-, -, -, c12, -⟩ := h.cs
  obtain ⟨-, -, -, -, -, -, -, -, c10⟩ := h.ps
  have f12 := h.sfz 12
  have sbl := lt_of_heap h.head
  have ct0 := (h.c.pln h.t).tk.cell (i := r) (s := 0) hm.r_ (by decide)
  have ct1 := (h.c.pln h.t).tk.cell (i := r) (s := 1) hm.r_ (by decide)
  rw [hm.t0] at ct0
  rw [hm.t1] at ct1
  rw [Nat.add_zero] at ct0
  have htq : I.tq ≠ I.sb := by
    obtain ⟨c, hc, _⟩ := (h.c.pln h.t).tk
    exact ne_of_type hc h.head (by decide)
  have HE : Hid (fillS P (live S) s r = fillR P (live S) r { s with left := s.left - 1 } a n) := hide (by
    unfold fillS
    rw [hm.t0, hm.t1]
    congr 1
    omega)
  have hl2 : (s.left : Int) - 1 = ((s.left - 1 : Nat) : Int) := by omega
  rw [HE.out]
  obtain ⟨s1, hs1⟩ : ∃ s1 : SlS, s1 = { s with left := s.left - 1 } := ⟨_, rfl⟩
  rw [← hs1]
  have HS1 := hide hs1
  have HB0 := hide (Nat.le_refl w.heap.size)
  clear h hm HE hs1
  go_enter Tryz.func110, Tryz.ntmps110
  go_upto_region 1 with fail
  have HL1 : Hid (Sl wb (w.setCell ⟨I.sb, 12, none⟩ (.int .i64 ((s.left - 1 : Nat) : Int))) I P S s1 v m) := hide (by
    rw [HS1.out]
    exact HL.out.sets ((Turned.refl [I.sb] w).setCell (p := ⟨I.sb, 12, none⟩) (.inl (by simp)) _) (by
      rw [heap_setCell_at _ _ _ _ _ _ HL.out.head]; rfl))
  have HO1 : Hid (SOut I v m v m w (w.setCell ⟨I.sb, 12, none⟩ (.int .i64 ((s.left - 1 : Nat) : Int)))) := hide (SOut.sets 12 _)
  generalize w.setCell ⟨I.sb, 12, none⟩ (.int .i64 ((s.left - 1 : Nat) : Int)) = w1 at *
  clear c12 c10 f12 sbl ct0 ct1 hl2
  obtain ⟨-, -, -, -, -, -, -, -, c10⟩ := HL1.out.ps
  have ct0 := (HL1.out.c.pln HL1.out.t).tk.cell (i := r) (s := 0) HM.out.r_ (by decide)
  have ct1 := (HL1.out.c.pln HL1.out.t).tk.cell (i := r) (s := 1) HM.out.r_ (by decide)
  rw [HM.out.t0, Nat.add_zero] at ct0
  rw [HM.out.t1] at ct1
  obtain ⟨hi, hhi⟩ : ∃ hi, hi = a + n := ⟨_, rfl⟩
  rw [← hhi] at ct1
  have HHi := hide hhi
  clear hhi
  go_upto_region 2 with fail
  obtain ⟨tb, htb⟩ : ∃ tb, tb = w1.heap.size := ⟨_, rfl⟩
  have HTb := hide htb
  rw [← htb]
  have HV2 : Hid ((w1.alloc (.cells #[.int .i64 (a : Int), .int .i64 (hi : Int)] 46)).heap[tb]? = some (.cells #[.int .i64 (a : Int), .int .i64 (hi : Int)] 46)) := hide (by rw [htb]; exact heap_alloc_new _ _)
  have HL2 := hide (HL1.out.quiet ((Turned.refl [] w1).alloc (.cells #[.int .i64 (a : Int), .int .i64 (hi : Int)] 46)))
  have HO2 := hide (HO1.out.trans (SOut.quiet ((Turned.refl [] w1).alloc (.cells #[.int .i64 (a : Int), .int .i64 (hi : Int)] 46))))
  generalize w1.alloc (.cells #[.int .i64 (a : Int), .int .i64 (hi : Int)] 46) = w2 at *
  clear c10 ct0 ct1 htb
  have v0 : w2.cell? ⟨tb, 0, none⟩ = some (.int .i64 (a : Int)) := by rw [cell_of_heap HV2.out]; rfl
  have HVl := hide (lt_of_heap HV2.out)
  have HW1 : Hid (∀ i, s1.wt i = s.wt i) := hide (fun i => by rw [HS1.out])
  have HH1 : Hid (s1.H.length + P.R < 65536) := hide (by rw [HS1.out]; exact HM.out.h_)
  have ha6 : a ≤ 65536 := by omega
  have hn6 : a + n ≤ 65536 := by omega
  go_wp2_with fail
  go_loopg [5] n (fun gg s5 wr => ∃ (i : Nat) (v' : Value), gg = n - i ∧ i ≤ n ∧ s5 = .int .i64 ((a + i : Nat) : Int) ∧ Hid (Sl wb wr I P S (fillR P (live S) r s1 a i) v' m) ∧ Hid (SOut I v m v' m w2 wr))
  case atStart => exact ⟨0, v, rfl, Nat.zero_le _, rfl, HL2, hide (SOut.quiet (Turned.refl _ _))⟩
  case round =>
    clear HL2 v0
    obtain ⟨i, v', rfl, hin, rfl, HLr, HOr⟩ := hrel
    have hvr : wr.heap[tb]? = some (.cells #[.int .i64 (a : Int), .int .i64 (hi : Int)] 46) := by rw [HOr.out.keep HL1.out (by rw [HTb.out]; exact Nat.le_refl _) HVl.out]; exact HV2.out
    have v1 : wr.cell? ⟨tb, 1, none⟩ = some (.int .i64 (hi : Int)) := by rw [cell_of_heap hvr]; rfl
    clear hvr
    obtain ⟨wq, hwq⟩ : ∃ wq, wq = wr := ⟨_, rfl⟩
    subst hwq
    by_cases hlt : i < n
    · have hlti : ((a + i : Nat) : Int) < (hi : Int) := by have := HHi.out; omega
      obtain ⟨o, ho⟩ : ∃ o, o = a + i := ⟨_, rfl⟩
      rw [← ho] at hlti ⊢
      have hoR : o < P.R := by omega
      have hoi : (o : Int) < (P.R : Int) := by omega
      have ho6 : o ≤ 65536 := by omega
      have HFn : Hid (fillR P (live S) r s1 a (i + 1) = fillOne P (live S) r (fillR P (live S) r s1 a i) o) := hide (by rw [ho]; rfl)
      have HOo := hide ho
      obtain ⟨-, -, -, -, c13, -⟩ := HLr.out.cs
      obtain ⟨-, -, -, -, -, c7, -⟩ := HLr.out.ps
      have cl := (HLr.out.c.pln HLr.out.t).lv.cell (i := o) hoR
      have cz := HLr.out.zw.cell (i := o) hoR
      have HWo : Hid ((fillR P (live S) r s1 a i).wt o = s.wt o) := hide (by rw [fillR_wt _ _ _ _ _ _ _ (by omega), HW1.out])
      rw [HWo.out] at cz
      have hw6 := HM.out.w6 o
      have hHl := fillR_len P (live S) r s1 a i
      have hzf : wq.frozen? ⟨I.zq, o, none⟩ = false := HLr.out.zw.fz o
      have HHo : Hid ((fillR P (live S) r s1 a i).H.length < 65536) := hide (by have := HH1.out; omega)
      have hwm := HM.out.w_ o (by omega) (by omega)
      clear hHl
      obtain ⟨lv, hlv⟩ : ∃ lv, lv = lvR P (live S) o := ⟨_, rfl⟩
      have HLv := hide hlv
      rw [← hlv] at cl hwm
      obtain ⟨s2, hs2⟩ : ∃ s2, s2 = fillR P (live S) r s1 a i := ⟨_, rfl⟩
      rw [← hs2] at HLr HFn HWo HHo
      have hnz : I.zq ≠ I.sb := by
        obtain ⟨c, hc, _⟩ := HLr.out.zw
        exact ne_of_type hc HLr.out.head (by decide)
      clear hlv hs2 ho
      by_cases hyes : o ≠ r ∧ 0 < lv
      · have h1 : ¬ (o : Int) = (r : Int) := by have := hyes.1; omega
        have h2 : (0 : Int) < (lv : Int) := by have := hyes.2; omega
        have h1b : ((o : Int) != (r : Int)) = true := by simp; omega
        have h2n : 0 < lv := hyes.2
        have hw1 := hwm hyes.1 hyes.2
        have hz2 : (s.wt o : Int) - 1 = ((s.wt o - 1 : Nat) : Int) := by omega
        have HF2 : Hid (fillR P (live S) r s1 a (i + 1) = lineS P { s2 with wt := fun j => if j = o then s.wt o - 1 else s2.wt j } o) := hide (by
          rw [HFn.out]
          unfold fillOne
          rw [if_pos ⟨hyes.1, by rw [← HLv.out]; exact hyes.2⟩, HWo.out])
        clear hwm hyes hw1 HFn
        go_upto_region 7 with fail
        have HLz := hide (HLr.out.setz o (s.wt o - 1))
        have HOz := hide (HOr.out.trans (SOut.setz o (.int .i64 ((s.wt o - 1 : Nat) : Int))))
        generalize wq.setCell ⟨I.zq, o, none⟩ (.int .i64 ((s.wt o - 1 : Nat) : Int)) = w4 at *
        clear HLr HOr c13 c7 cl cz hzf v1
        have HLu := hide (lineup_any wb w4 I P S _ v' m o HLz.out hoR HHo.out)
        rw [← HF2.out] at HLu
        go_wp2_with fail
        refine (HLu.out).mono ?_
        rintro e1 w5 ⟨rfl, v5, h5, o5⟩
        have HL5 := hide h5
        have HO5 := hide (HOz.out.trans o5)
        clear h5 o5 HLu HLz HOz
        go_wp2_with fail
        go_roundg (n - (i + 1))
        case measure => omega
        case rel => exact ⟨i + 1, v5, rfl, hlt, by have := HOo.out; subst this; go_num, HL5, HO5⟩
      · have HF2 : Hid (fillR P (live S) r s1 a (i + 1) = s2) := hide (by
          rw [HFn.out]
          unfold fillOne
          rw [if_neg (by rw [← HLv.out]; exact hyes)])
        have HL5 : Hid (Sl wb wq I P S (fillR P (live S) r s1 a (i + 1)) v' m) := hide (by rw [HF2.out]; exact HLr.out)
        clear hwm HFn HLr
        by_cases hor : o = r
        · subst hor
          go_wp2_with fail
          go_roundg (n - (i + 1))
          case measure => omega
          case rel => exact ⟨i + 1, v', rfl, hlt, by have := HOo.out; subst this; go_num, HL5, HOr⟩
        · have h1 : ¬ (o : Int) = (r : Int) := by omega
          have h2 : ¬ (0 : Int) < (lv : Int) := by
            intro h3
            exact hyes ⟨hor, by omega⟩
          have h1b : ((o : Int) != (r : Int)) = true := by simp; omega
          have h2n : ¬ 0 < lv := by omega
          clear hyes
          go_wp2_with fail
          go_roundg (n - (i + 1))
          case measure => omega
          case rel => exact ⟨i + 1, v', rfl, hlt, by have := HOo.out; subst this; go_num, HL5, HOr⟩
    · have hlti : ¬ ((a + i : Nat) : Int) < (hi : Int) := by have := HHi.out; omega
      have hie : i = n := by omega
      subst hie
      go_wp2_with fail
      first | refine bodyPost_end (results_none rfl _ _ _) rfl ?_ | refine bodyPost_ret (results_none rfl _ _ _) rfl ?_
      exact ⟨rfl, v', HLr.out, HO2.out.trans HOr.out⟩
end Go.Proofs.YtbmlggemheljkaaGreatDoor

/-
  A slider's worker: store.
-/
namespace Go.Proofs.YtbmlggemheljkaaGreatDoor
open Go.RowKit Bt
set_option linter.unusedVariables false
set_option linter.unusedSimpArgs false

theorem Tryz.infoTwo2 : (Tryz.prog.info? 46).map (fun i => (i.zero, i.size, i.bytes)) = some (some (.agg #[.int .i64 0, .int .i64 0]), 2, 16) := by kernel_rfl
theorem wp_append_mv (w : World) {o : Oper} {a : Act} {K : Act → World → Prop} {Q : Exit → Act → World → Prop} (s x : Operand)
    (ho : o.op = .call { callee := .builtin .append, args := #[s, x], argTypes := #[22, 22] }) (B : Nat) (v : Value) (n : Nat) (xs : List Value) (hs : a.eval s = v) (h : w.ownsRow B 46 2 v n xs) (sb : Nat) (c d : Int) (hx : a.eval x = .slice (some ⟨sb, 0, none⟩) 1 1) (hX : w.cell? ⟨sb, 0, none⟩ = some (.int .i64 c)) (hY : w.cell? ⟨sb, 1, none⟩ = some (.int .i64 d)) (hn : n ≤ 1000000) (hB : B ≤ w.heap.size)
    (hK : ∀ q cap w', w'.ownsRow B 46 2 (.slice (some ⟨q, 0, none⟩) (n + 1) cap) (n + 1) (xs ++ [.int .i64 c, .int .i64 d]) → Turned v.ownBlock.toList w w' → (v.ownBlock = some q ∨ w.heap.size ≤ q) → K (a.put o.dst (.slice (some ⟨q, 0, none⟩) (n + 1) cap)) w') : o.wp Tryz.prog a w K Q := by
  obtain ⟨i0, hi, hi0⟩ := Option.map_eq_some_iff.1 Tryz.infoTwo2
  simp only [Prod.mk.injEq] at hi0
  obtain ⟨hz0, hz1, hz2⟩ := hi0
  obtain ⟨v', w', hr, h2, h3, h4, h5⟩ := run_append_own_at (P := Tryz.prog) w B 22 o.type 46 i0 _ 2 16 Tryz.underlying22 hi hz0 hz1 hz2 rfl (by decide) v n xs h ⟨sb, 0, none⟩ 1 1 [.int .i64 c, .int .i64 d] rfl (fun j u hu => by
    rw [Addr.add_lit, Nat.zero_add]
    match j, hu with
    | 0, hu => simp at hu; subst hu; exact hX
    | 1, hu => simp at hu; subst hu; exact hY
    | j + 2, hu => simp at hu) (by intro u hu; simp at hu; rcases hu with rfl | rfl <;> rfl) (by unfold maxLen; omega) (by omega) hB
  rcases h2.2 with ⟨_, h0⟩ | ⟨q, cap, cur, rfl, _⟩
  · omega
  · unfold Oper.wp execOp
    simp only [ho, resolve, invoke, builtin, Sem.run_bind, Sem.run_pure, Result.andThen_ok, List.map_toArray, List.map_cons, List.map_nil, hs, hx, hr]
    refine hK q cap w' h2 ((Turned.refl _ _).grown h3 (fun k hk => .inl (by simp [hk]))) ?_
    rcases h5 with e | e
    · left; rw [← e]; simp [Value.ownBlock]
    · right; simp [Value.ownBlock] at e; omega
theorem own_of {q n c N : Nat} {m : Value} (d : m.ownBlock = some q ∨ N ≤ q) : ∀ i, (Value.slice (some ⟨q, 0, none⟩) n c).ownBlock = some i → m.ownBlock = some i ∨ N ≤ i := by
  intro i hi
  have : q = i := by simpa [Value.ownBlock] using hi
  subst this
  exact d
theorem lineS_ws (P : PN) (s : SlS) (r : Nat) : (lineS P s r).ws = s.ws := by unfold lineS; split <;> rfl
theorem fillOne_ws (P : PN) (L : Nat → Bool) (r : Nat) (s : SlS) (o : Nat) : (fillOne P L r s o).ws = s.ws := by
  unfold fillOne
  split
  · rw [lineS_ws]
  · rfl
theorem fillR_ws (P : PN) (L : Nat → Bool) (r : Nat) (s : SlS) (a : Nat) : ∀ n, (fillR P L r s a n).ws = s.ws := by
  intro n
  induction n with
  | zero => rfl
  | succ n ih => show (fillOne P L r (fillR P L r s a n) (a + n)).ws = _; rw [fillOne_ws, ih]
theorem fillS_ws (P : PN) (L : Nat → Bool) (s : SlS) (r : Nat) : (fillS P L s r).ws = s.ws := fillR_ws _ _ _ _ _ _
/-- Behind the store itself: a word is there, and its move is told. -/
def storeA (s : SlS) (k : Nat) (x : SlW) : SlS := { s with hw := s.hw.set x.x x.wd, ac := wrap64 (s.ac + 1), mv := s.mv ++ [(x.src, x.x)], ws := s.ws.set k { x with x := x.x + 1 } }
noncomputable def storeS (P : PN) (S : Nat → Nat) (s : SlS) (k : Nat) (x : SlW) : SlS :=
  if x.x + 1 = x.y then { fillS P (live S) (storeA s k x) x.rg with ws := s.ws.set k ⟨0, x.rg, x.x + 1, x.y, x.src, x.wd⟩ }
  else { storeA s k x with ws := s.ws.set k ⟨1, x.rg, x.x + 1, x.y, srcN P S (x.x + 1), x.wd⟩ }
/-- What a store asks. -/
structure MayS (P : PN) (S : Nat → Nat) (s : SlS) (k : Nat) (x : SlW) : Prop where
  x_ : x.x < s.hw.length
  d_ : P.d ≤ x.x
  src : SrcOf P S x.x x.src
  y6 : x.y ≤ 1000000 ∧ x.x < x.y
  m6 : s.mv.length ≤ 1000000
  next : x.x + 1 < x.y → ∃ z, SrcOf P S (x.x + 1) z
  fill : x.x + 1 = x.y → ∃ a n, MayF P (live S) (storeA s k x) x.rg a n

set_option maxHeartbeats 4000000 in
set_option maxRecDepth 100000 in
theorem store_any (wb w : World) (I : SlI) (P : PN) (S : Nat → Nat) (s : SlS) (v m : Value) (k b : Nat) (x : SlW) (h : Sl wb w I P S s v m) (hk : I.ws[k]? = some b) (hx : s.ws[k]? = some x) (hm : MayS P S s k x) :
    Calls Tryz.prog 100 #[.pointer (some ⟨b, 0, none⟩)] w fun e w' => e = .returned (.tuple #[]) ∧ ∃ v' m', Sl wb w' I P S (storeS P S s k x) v' m' ∧ SOut I v m v' m' w w' := by
  have HL := hide h
  have HK := hide hk
  have HX := hide hx
  have HM := hide hm
  have HGet : Hid (∃ z, s.hw[x.x]? = some z) := hide ⟨_, List.getElem?_eq_getElem hm.x_⟩
  have HSt : Hid (∀ w', Turned [] w w' → Calls Tryz.prog 109 #[.pointer (some ⟨I.cp, 0, none⟩), .int .i64 (x.x : Int), .int .i64 x.wd] w' fun e w'' => e = .returned (.int .i64 0) ∧ Sl wb w'' I P S { s with hw := s.hw.set x.x x.wd, ac := wrap64 (s.ac + 1) } v m ∧ SOut I v m v m w w'') := hide (fun w' tt => by
    obtain ⟨z, hz⟩ := HGet.out
    refine (store_in I.cp I.cq s.hw s.ac w' x.x z x.wd hz (HL.out.quiet tt).mem).mono ?_
    rintro e w'' ⟨rfl, h1, t1⟩
    exact ⟨rfl, (HL.out.quiet tt).acc h1 t1, (SOut.quiet tt).trans (SOut.acc t1)⟩)
  have HFin : Hid (∀ w' {s' : SlS} {v' m' : Value}, Sl wb w' I P S s' v' m' → s'.ws = s.ws → w'.cell? ⟨b, 1, none⟩ = some (.pointer (some ⟨I.sb, 0, none⟩)) ∧ w'.cell? ⟨b, 3, none⟩ = some (.int .i64 (x.x : Int)) ∧ w'.cell? ⟨b, 5, none⟩ = some (.int .i64 (x.src : Int)) ∧ w'.cell? ⟨b, 6, none⟩ = some (.int .i64 x.wd) ∧ w'.cell? ⟨I.sb, 0, none⟩ = some (.pointer (some ⟨I.cp, 0, none⟩)) ∧ b < w'.heap.size ∧ b ≠ I.sb) := hide (fun w' {s' v' m'} hL hs => by
    have hx' : s'.ws[k]? = some x := by rw [hs]; exact HX.out
    have hc := hL.wc HK.out hx'
    exact ⟨hc.2.1, hc.2.2.2.1, hc.2.2.2.2.2.1, hc.2.2.2.2.2.2, hL.cs.1, hL.wlt HK.out hx', hL.wne HK.out hx'⟩)
  have HSx : Hid (storeS P S s k x = storeS P S s k x) := hide rfl
  clear h hk hx hm
  obtain ⟨e1, e3, -, e6, es, eb, en⟩ := HFin.out _ (HL.out.quiet (Turned.refl [] w).drew) rfl
  have HT := hide (Turned.refl [] w).drew
  go_enter Tryz.func100, Tryz.ntmps100
  go_wp2_with fail
  go_region_held3 (fun w' => w'.cell? ⟨b, 1, none⟩ = some (.pointer (some ⟨I.sb, 0, none⟩)) ∧ w'.cell? ⟨b, 3, none⟩ = some (.int .i64 (x.x : Int)) ∧ w'.cell? ⟨b, 6, none⟩ = some (.int .i64 x.wd) ∧ w'.cell? ⟨I.sb, 0, none⟩ = some (.pointer (some ⟨I.cp, 0, none⟩))) (go_keep)
    (first
      | (go_at_call 109; refine (HSt.out _ HT.out).mono ?_; rintro e w2 ⟨rfl, h2, o2⟩; have HL2 := hide h2; have HO2 := hide o2; obtain ⟨y1, y3, -, y6, ys, yb, yn⟩ := HFin.out _ HL2.out rfl; clear h2 o2))
  clear e1 e3 e6 es eb en HT y1 y3 y6 ys yb yn HSt HL
  obtain ⟨ml, hml⟩ : ∃ ml, ml = s.mv.length := ⟨_, rfl⟩
  have HMn := hide hml
  have HMl : Hid (ml ≤ 1000000) := hide (by rw [hml]; exact HM.out.m6)
  have HT4 : Hid (Turned [] w2 (w2.drew.alloc (.cells #[.int .i64 (x.src : Int), .int .i64 (x.x : Int)] 46))) := hide ((Turned.refl [] w2).drew.alloc _)
  have HMv : Hid ((w2.drew.alloc (.cells #[.int .i64 (x.src : Int), .int .i64 (x.x : Int)] 46)).ownsRow I.B 46 2 m ml (mvRow s.mv)) := hide (by rw [hml]; exact (HL2.out.quiet HT4.out).mv)
  have HTy : Hid (∀ w5, Turned m.ownBlock.toList (w2.drew.alloc (.cells #[.int .i64 (x.src : Int), .int .i64 (x.x : Int)] 46)) w5 → w5.cell? ⟨b, 1, none⟩ = some (.pointer (some ⟨I.sb, 0, none⟩)) ∧ w5.cell? ⟨b, 3, none⟩ = some (.int .i64 (x.x : Int)) ∧ w5.cell? ⟨b, 5, none⟩ = some (.int .i64 (x.src : Int)) ∧ w5.cell? ⟨I.sb, 15, none⟩ = some m ∧ w5.frozen? ⟨I.sb, 15, none⟩ = false ∧ I.sb < w5.heap.size ∧ I.sb ≠ b) := hide (fun w5 t5 => by
    have hL := HL2.out.quiet HT4.out
    have hT : ∀ e : TypeId, e ≠ 46 → ∀ i, i ∈ m.ownBlock.toList → ∃ c' e' fr, (w2.drew.alloc (.cells #[.int .i64 (x.src : Int), .int .i64 (x.x : Int)] 46)).heap[i]? = some (.cells c' e' fr) ∧ e' ≠ e := by
      intro e h1 i hi
      obtain ⟨_, _, c2, hc2⟩ := ownsRow_lt hL.mv i (by simpa using hi)
      exact ⟨_, _, _, hc2, fun e => h1 e.symm⟩
    have h1 := keep_ty t5 (hL.wblk HK.out HX.out) (hT _ (by decide))
    have h2 := keep_ty t5 hL.head (hT _ (by decide))
    refine ⟨?_, ?_, ?_, ?_, by simp [World.frozen?, h2], lt_of_heap h2, fun e => hL.wne HK.out HX.out e.symm⟩
    · rw [cell_of_heap h1]; rfl
    · rw [cell_of_heap h1]; rfl
    · rw [cell_of_heap h1]; rfl
    · rw [cell_of_heap h2]; rfl)
  have SB2 := HFin.out _ (HL2.out.quiet (Turned.refl [] w2).drew) rfl
  have c15 := (HL2.out.quiet (Turned.refl [] w2).drew).cs.2.2.2.2.2.2
  clear hml
  go_upto_region 1 with fail
  go_cut [] (fun wc => ∃ m', Aside (Sl wb wc I P S { s with hw := s.hw.set x.x x.wd, ac := wrap64 (s.ac + 1), mv := s.mv ++ [(x.src, x.x)] } v m') ∧ Aside (SOut I v m v m' w wc))
  case first =>
    refine wp_region_held_drew (S := (fun w' => w'.cell? ⟨b, 1, none⟩ = some (.pointer (some ⟨I.sb, 0, none⟩)) ∧ w'.cell? ⟨b, 3, none⟩ = some (.int .i64 (x.x : Int)) ∧ w'.cell? ⟨b, 5, none⟩ = some (.int .i64 (x.src : Int)))) (by kernel_rfl) ⟨SB2.1, SB2.2.1, SB2.2.2.1⟩ (fun hHeld => ?_)
    refine wpAnyH_take (i := 0) (v := ?_) rfl (by kernel_rfl) (by kernel_rfl) (by kernel_rfl) (fun _ _ _ h => h) (Or.inl ⟨by rfl, ?_⟩) (by assumption) ?_
    rotate_left
    · (intro w hSw; (try dsimp only at hSw); go_simp; all_goals with_reducible rfl)
    (try simp only [List.getElem_toArray, List.getElem_cons_succ, List.getElem_cons_zero, Act.put, List.setIfInBounds_toArray, List.set_cons_zero, List.set_cons_succ])
    refine wpAnyH_take (i := 1) (v := ?_) rfl (by kernel_rfl) (by kernel_rfl) (by kernel_rfl) (fun _ _ _ h => h) (Or.inl ⟨by rfl, ?_⟩) (by assumption) ?_
    rotate_left
    · (intro w hSw; (try dsimp only at hSw); go_simp; all_goals with_reducible rfl)
    (try simp only [List.getElem_toArray, List.getElem_cons_succ, List.getElem_cons_zero, Act.put, List.setIfInBounds_toArray, List.set_cons_zero, List.set_cons_succ])
    refine wpAnyH_take (i := 2) (v := ?_) rfl (by kernel_rfl) (by kernel_rfl) (by kernel_rfl) (fun _ _ _ h => h) (Or.inl ⟨by rfl, ?_⟩) (by assumption) ?_
    rotate_left
    · (intro w hSw; (try dsimp only at hSw); go_simp; all_goals with_reducible rfl)
    (try simp only [List.getElem_toArray, List.getElem_cons_succ, List.getElem_cons_zero, Act.put, List.setIfInBounds_toArray, List.set_cons_zero, List.set_cons_succ])
    refine wpAnyH_take (i := 3) (v := ?_) rfl (by kernel_rfl) (by kernel_rfl) (by kernel_rfl) (fun _ _ _ h => h) (Or.inl ⟨by rfl, ?_⟩) (by assumption) ?_
    rotate_left
    · (intro w hSw; (try dsimp only at hSw); go_simp; all_goals with_reducible rfl)
    (try simp only [List.getElem_toArray, List.getElem_cons_succ, List.getElem_cons_zero, Act.put, List.setIfInBounds_toArray, List.set_cons_zero, List.set_cons_succ])
    refine wpAnyH_take (i := 4) (v := ?_) rfl (by kernel_rfl) (by kernel_rfl) (by kernel_rfl) (fun _ _ _ h => h) (Or.inl ⟨by rfl, ?_⟩) (by assumption) ?_
    rotate_left
    · (intro w hSw; (try dsimp only at hSw); go_simp; all_goals with_reducible rfl)
    (try simp only [List.getElem_toArray, List.getElem_cons_succ, List.getElem_cons_zero, Act.put, List.setIfInBounds_toArray, List.set_cons_zero, List.set_cons_succ])
    refine wpAnyH_take (i := 5) (v := ?_) rfl (by kernel_rfl) (by kernel_rfl) (by kernel_rfl) (fun _ _ _ h => h) (Or.inl ⟨by rfl, ?_⟩) (by assumption) ?_
    rotate_left
    · (intro w hSw; (try dsimp only at hSw); go_simp; all_goals with_reducible rfl)
    (try simp only [List.getElem_toArray, List.getElem_cons_succ, List.getElem_cons_zero, Act.put, List.setIfInBounds_toArray, List.set_cons_zero, List.set_cons_succ])
    refine wpAnyH_take (i := 6) (v := ?_) rfl (by kernel_rfl) (by kernel_rfl) (by kernel_rfl) (fun _ _ _ h => h) (Or.inl ⟨by rfl, ?_⟩) (by assumption) ?_
    rotate_left
    · (intro w hSw; (try dsimp only at hSw); go_simp; all_goals with_reducible rfl)
    (try simp only [List.getElem_toArray, List.getElem_cons_succ, List.getElem_cons_zero, Act.put, List.setIfInBounds_toArray, List.set_cons_zero, List.set_cons_succ])
    refine wpAnyH_take (i := 7) (v := ?_) rfl (by kernel_rfl) (by kernel_rfl) (by kernel_rfl) (fun _ _ _ h => h) (Or.inl ⟨by rfl, ?_⟩) (by assumption) ?_
    rotate_left
    · (intro w hSw; (try dsimp only at hSw); go_simp; all_goals with_reducible rfl)
    (try simp only [List.getElem_toArray, List.getElem_cons_succ, List.getElem_cons_zero, Act.put, List.setIfInBounds_toArray, List.set_cons_zero, List.set_cons_succ])
    refine wpAnyH_take (i := 8) (v := ?_) rfl (by kernel_rfl) (by kernel_rfl) (by kernel_rfl) (fun _ _ _ h => h) (Or.inl ⟨by rfl, ?_⟩) (by assumption) ?_
    rotate_left
    · (intro w hSw; (try dsimp only at hSw); go_simp; all_goals with_reducible rfl)
    (try simp only [List.getElem_toArray, List.getElem_cons_succ, List.getElem_cons_zero, Act.put, List.setIfInBounds_toArray, List.set_cons_zero, List.set_cons_succ])
    refine wpAnyH_take (i := 9) (v := ?_) rfl (by kernel_rfl) (by kernel_rfl) (by kernel_rfl) (fun _ _ _ h => h) (Or.inl ⟨by rfl, ?_⟩) (by assumption) ?_
    rotate_left
    · (intro w hSw; (try dsimp only at hSw); go_simp; all_goals with_reducible rfl)
    (try simp only [List.getElem_toArray, List.getElem_cons_succ, List.getElem_cons_zero, Act.put, List.setIfInBounds_toArray, List.set_cons_zero, List.set_cons_succ])
    refine wpAnyH_take (i := 11) (v := ?_) rfl (by kernel_rfl) (by kernel_rfl) (by kernel_rfl) (fun _ _ _ h => h) (Or.inl ⟨by rfl, ?_⟩) (by assumption) ?_
    rotate_left
    · (intro w hSw; (try dsimp only at hSw); go_simp; all_goals with_reducible rfl)
    (try simp only [List.getElem_toArray, List.getElem_cons_succ, List.getElem_cons_zero, Act.put, List.setIfInBounds_toArray, List.set_cons_zero, List.set_cons_succ])
    refine wpAnyH_take (i := 12) (v := ?_) rfl (by kernel_rfl) (by kernel_rfl) (by kernel_rfl) (fun _ _ _ h => h) (Or.inl ⟨by rfl, ?_⟩) (by assumption) ?_
    rotate_left
    · (intro w hSw; (try dsimp only at hSw); go_simp; all_goals with_reducible rfl)
    (try simp only [List.getElem_toArray, List.getElem_cons_succ, List.getElem_cons_zero, Act.put, List.setIfInBounds_toArray, List.set_cons_zero, List.set_cons_succ])
    refine wpAnyH_take (i := 13) (v := ?_) rfl (by kernel_rfl) (by kernel_rfl) (by kernel_rfl) (fun _ _ _ h => h) (Or.inl ⟨by rfl, ?_⟩) (by assumption) ?_
    rotate_left
    · (intro w hSw; (try dsimp only at hSw); go_simp; all_goals with_reducible rfl)
    (try simp only [List.getElem_toArray, List.getElem_cons_succ, List.getElem_cons_zero, Act.put, List.setIfInBounds_toArray, List.set_cons_zero, List.set_cons_succ])
    refine wpAnyH_take (i := 14) (v := ?_) rfl (by kernel_rfl) (by kernel_rfl) (by kernel_rfl) (fun _ _ _ h => h) (Or.inl ⟨by rfl, ?_⟩) (by assumption) ?_
    rotate_left
    · (intro w hSw; (try dsimp only at hSw); go_simp; all_goals with_reducible rfl)
    (try simp only [List.getElem_toArray, List.getElem_cons_succ, List.getElem_cons_zero, Act.put, List.setIfInBounds_toArray, List.set_cons_zero, List.set_cons_succ])
    refine wpAnyH_take (i := 15) (v := ?_) rfl (by kernel_rfl) (by kernel_rfl) (by kernel_rfl) (fun _ _ _ h => h) (Or.inl ⟨by rfl, ?_⟩) (by assumption) ?_
    rotate_left
    · (intro w hSw; (try dsimp only at hSw); go_simp; all_goals with_reducible rfl)
    (try simp only [List.getElem_toArray, List.getElem_cons_succ, List.getElem_cons_zero, Act.put, List.setIfInBounds_toArray, List.set_cons_zero, List.set_cons_succ])
    refine wpAnyH_take (i := 16) (v := ?_) rfl (by kernel_rfl) (by kernel_rfl) (by kernel_rfl) (fun _ _ _ h => h) (Or.inl ⟨by rfl, ?_⟩) (by assumption) ?_
    rotate_left
    · (intro w hSw; (try dsimp only at hSw); go_simp; all_goals with_reducible rfl)
    (try simp only [List.getElem_toArray, List.getElem_cons_succ, List.getElem_cons_zero, Act.put, List.setIfInBounds_toArray, List.set_cons_zero, List.set_cons_succ])
    refine wpAnyH_take (i := 17) (v := ?_) rfl (by kernel_rfl) (by kernel_rfl) (by kernel_rfl) (fun _ _ _ h => h) (Or.inl ⟨by rfl, ?_⟩) (by assumption) ?_
    rotate_left
    · (intro w hSw; (try dsimp only at hSw); go_simp; all_goals with_reducible rfl)
    (try simp only [List.getElem_toArray, List.getElem_cons_succ, List.getElem_cons_zero, Act.put, List.setIfInBounds_toArray, List.set_cons_zero, List.set_cons_succ])
    refine wpAnyH_take (i := 18) (v := ?_) rfl (by kernel_rfl) (by kernel_rfl) (by kernel_rfl) (fun _ _ _ h => h) (Or.inl ⟨by rfl, ?_⟩) (by assumption) ?_
    rotate_left
    · (intro w hSw; (try dsimp only at hSw); go_simp; all_goals with_reducible rfl)
    (try simp only [List.getElem_toArray, List.getElem_cons_succ, List.getElem_cons_zero, Act.put, List.setIfInBounds_toArray, List.set_cons_zero, List.set_cons_succ])
    refine wpAnyH_take (i := 19) (v := ?_) rfl (by kernel_rfl) (by kernel_rfl) (by kernel_rfl) (fun _ _ _ h => h) (Or.inl ⟨by rfl, ?_⟩) (by assumption) ?_
    rotate_left
    · (intro w hSw; (try dsimp only at hSw); go_simp; all_goals with_reducible rfl)
    (try simp only [List.getElem_toArray, List.getElem_cons_succ, List.getElem_cons_zero, Act.put, List.setIfInBounds_toArray, List.set_cons_zero, List.set_cons_succ])
    refine wpAnyH_ready (rs := [10, 20]) (by kernel_rfl) (by simp) ?_
    refine AllReadyH.cons rfl (fun K hK => ?_) ?_
    · (try simp only [List.getElem_toArray, List.getElem_cons_succ, List.getElem_cons_zero])
      go_simp
      refine hK.out _ _ ?_ (fun hHeld => ?_)
      · ((try dsimp only); exact ⟨SB2.1, SB2.2.1, SB2.2.2.1⟩)
      clear hK K
      (try simp only [List.getElem_toArray, List.getElem_cons_succ, List.getElem_cons_zero, Act.put, List.setIfInBounds_toArray, List.set_cons_zero, List.set_cons_succ])
      refine wpAnyH_ready (rs := [20]) (by kernel_rfl) (by simp) ?_
      refine AllReadyH.cons rfl (fun K hK => ?_) AllReadyH.nil
      (try simp only [List.getElem_toArray, List.getElem_cons_succ, List.getElem_cons_zero])
      go_simp
      have k15 : ((w2.alloc (.cells #[.int .i64 (x.src : Int), .int .i64 (x.x : Int)] 46)).drew).cell? ⟨I.sb, 15, none⟩ = some m := (HL2.out.quiet HT4.out).cs.2.2.2.2.2.2
      have SB4 := HFin.out _ (HL2.out.quiet HT4.out) rfl
      refine hK.out _ _ ?_ (fun hHeld => ?_)
      · ((try dsimp only); exact ⟨SB4.1, SB4.2.1, SB4.2.2.1⟩)
      clear hK K
      (try simp only [List.getElem_toArray, List.getElem_cons_succ, List.getElem_cons_zero, Act.put, List.setIfInBounds_toArray, List.set_cons_zero, List.set_cons_succ])
      refine wpAnyH_ready (rs := [21]) (by kernel_rfl) (by simp) ?_
      refine AllReadyH.cons rfl (fun K hK => ?_) AllReadyH.nil
      (try simp only [List.getElem_toArray, List.getElem_cons_succ, List.getElem_cons_zero])
      refine of_wanted13 (by rfl) ?_
      refine wp_append_mv (w2.drew.alloc (.cells #[.int .i64 (x.src : Int), .int .i64 (x.x : Int)] 46)) (.tmp 28) (.tmp 38) ?_ I.B m ml _ ?_ HMv.out w2.heap.size (x.src : Int) (x.x : Int) ?_ ?_ ?_ ?_ ?_ ?_
      · rfl
      · rfl
      · rfl
      · exact cell_of_heap (heap_alloc_new w2.drew _) 0
      · exact cell_of_heap (heap_alloc_new w2.drew _) 1
      · exact HMl.out
      · exact (HL2.out.quiet HT4.out).ln.base
      intro q5 cap5 w5 o5 t5 d5
      have HD5 := hide d5
      have HL5 := hide ((HL2.out.quiet HT4.out).moved (m' := .slice (some ⟨q5, 0, none⟩) (ml + 1) cap5) t5 x.src x.x (by rw [← HMn.out]; exact o5))
      have HO5 := hide ((HO2.out.trans (SOut.quiet HT4.out)).trans (SOut.moved (m1 := .slice (some ⟨q5, 0, none⟩) (ml + 1) cap5) t5 (own_of HD5.out)))
      have SB5 := HTy.out w5 t5
      clear o5 t5 d5
      refine hK.out _ _ ?_ (fun hHeld => ?_)
      · ((try dsimp only); exact ⟨SB5.1, SB5.2.1, SB5.2.2.1⟩)
      clear hK K
      (try simp only [List.getElem_toArray, List.getElem_cons_succ, List.getElem_cons_zero, Act.put, List.setIfInBounds_toArray, List.set_cons_zero, List.set_cons_succ])
      refine wpAnyH_take (i := 22) (v := ?_) rfl (by kernel_rfl) (by kernel_rfl) (by kernel_rfl) (fun _ _ _ h => h) (Or.inl ⟨by rfl, ?_⟩) (by assumption) ?_
      rotate_left
      · (intro w hSw; (try dsimp only at hSw); go_simp; all_goals with_reducible rfl)
      (try simp only [List.getElem_toArray, List.getElem_cons_succ, List.getElem_cons_zero, Act.put, List.setIfInBounds_toArray, List.set_cons_zero, List.set_cons_succ])
      refine wpAnyH_take (i := 23) (v := ?_) rfl (by kernel_rfl) (by kernel_rfl) (by kernel_rfl) (fun _ _ _ h => h) (Or.inl ⟨by rfl, ?_⟩) (by assumption) ?_
      rotate_left
      · (intro w hSw; (try dsimp only at hSw); go_simp; all_goals with_reducible rfl)
      (try simp only [List.getElem_toArray, List.getElem_cons_succ, List.getElem_cons_zero, Act.put, List.setIfInBounds_toArray, List.set_cons_zero, List.set_cons_succ])
      refine wpAnyH_ready (rs := [24]) (by kernel_rfl) (by simp) ?_
      refine AllReadyH.cons rfl (fun K hK => ?_) AllReadyH.nil
      have z15 := SB5.2.2.2.1
      have zf := SB5.2.2.2.2.1
      have zl := SB5.2.2.2.2.2.1
      have zn := SB5.2.2.2.2.2.2
      (try simp only [List.getElem_toArray, List.getElem_cons_succ, List.getElem_cons_zero])
      go_simp
      refine hK.out _ _ ?_ (fun hHeld => ?_)
      · ((try dsimp only); (refine ⟨?_, ?_, ?_⟩ <;> (rw [World.cell?_setCell_far _ _ _ _ zn]; first | exact SB5.1 | exact SB5.2.1 | exact SB5.2.2.1)))
      clear hK K
      (try simp only [List.getElem_toArray, List.getElem_cons_succ, List.getElem_cons_zero, Act.put, List.setIfInBounds_toArray, List.set_cons_zero, List.set_cons_succ])
      refine wpAnyH_done (by kernel_rfl) ?_ _
      generalize w5.setCell ⟨I.sb, 15, none⟩ (.slice (some ⟨q5, 0, none⟩) (ml + 1) cap5) = w6 at *
      clear SB5 z15 zf zl zn hHeld
      go_wp2_with fail
      go_meet
      case rel => exact ⟨_, HL5.out, HO5.out⟩
    · refine AllReadyH.cons rfl (fun K hK => ?_) AllReadyH.nil
      (try simp only [List.getElem_toArray, List.getElem_cons_succ, List.getElem_cons_zero])
      go_simp
      have k15 : ((w2.alloc (.cells #[.int .i64 (x.src : Int), .int .i64 (x.x : Int)] 46)).drew).cell? ⟨I.sb, 15, none⟩ = some m := (HL2.out.quiet HT4.out).cs.2.2.2.2.2.2
      have SB4 := HFin.out _ (HL2.out.quiet HT4.out) rfl
      refine hK.out _ _ ?_ (fun hHeld => ?_)
      · ((try dsimp only); exact ⟨SB4.1, SB4.2.1, SB4.2.2.1⟩)
      clear hK K
      (try simp only [List.getElem_toArray, List.getElem_cons_succ, List.getElem_cons_zero, Act.put, List.setIfInBounds_toArray, List.set_cons_zero, List.set_cons_succ])
      refine wpAnyH_ready (rs := [10]) (by kernel_rfl) (by simp) ?_
      refine AllReadyH.cons rfl (fun K hK => ?_) AllReadyH.nil
      (try simp only [List.getElem_toArray, List.getElem_cons_succ, List.getElem_cons_zero])
      go_simp
      refine hK.out _ _ ?_ (fun hHeld => ?_)
      · ((try dsimp only); exact ⟨SB4.1, SB4.2.1, SB4.2.2.1⟩)
      clear hK K
      (try simp only [List.getElem_toArray, List.getElem_cons_succ, List.getElem_cons_zero, Act.put, List.setIfInBounds_toArray, List.set_cons_zero, List.set_cons_succ])
      refine wpAnyH_ready (rs := [21]) (by kernel_rfl) (by simp) ?_
      refine AllReadyH.cons rfl (fun K hK => ?_) AllReadyH.nil
      (try simp only [List.getElem_toArray, List.getElem_cons_succ, List.getElem_cons_zero])
      refine of_wanted13 (by rfl) ?_
      refine wp_append_mv (w2.drew.alloc (.cells #[.int .i64 (x.src : Int), .int .i64 (x.x : Int)] 46)) (.tmp 28) (.tmp 38) ?_ I.B m ml _ ?_ HMv.out w2.heap.size (x.src : Int) (x.x : Int) ?_ ?_ ?_ ?_ ?_ ?_
      · rfl
      · rfl
      · rfl
      · exact cell_of_heap (heap_alloc_new w2.drew _) 0
      · exact cell_of_heap (heap_alloc_new w2.drew _) 1
      · exact HMl.out
      · exact (HL2.out.quiet HT4.out).ln.base
      intro q5 cap5 w5 o5 t5 d5
      have HD5 := hide d5
      have HL5 := hide ((HL2.out.quiet HT4.out).moved (m' := .slice (some ⟨q5, 0, none⟩) (ml + 1) cap5) t5 x.src x.x (by rw [← HMn.out]; exact o5))
      have HO5 := hide ((HO2.out.trans (SOut.quiet HT4.out)).trans (SOut.moved (m1 := .slice (some ⟨q5, 0, none⟩) (ml + 1) cap5) t5 (own_of HD5.out)))
      have SB5 := HTy.out w5 t5
      clear o5 t5 d5
      refine hK.out _ _ ?_ (fun hHeld => ?_)
      · ((try dsimp only); exact ⟨SB5.1, SB5.2.1, SB5.2.2.1⟩)
      clear hK K
      (try simp only [List.getElem_toArray, List.getElem_cons_succ, List.getElem_cons_zero, Act.put, List.setIfInBounds_toArray, List.set_cons_zero, List.set_cons_succ])
      refine wpAnyH_take (i := 22) (v := ?_) rfl (by kernel_rfl) (by kernel_rfl) (by kernel_rfl) (fun _ _ _ h => h) (Or.inl ⟨by rfl, ?_⟩) (by assumption) ?_
      rotate_left
      · (intro w hSw; (try dsimp only at hSw); go_simp; all_goals with_reducible rfl)
      (try simp only [List.getElem_toArray, List.getElem_cons_succ, List.getElem_cons_zero, Act.put, List.setIfInBounds_toArray, List.set_cons_zero, List.set_cons_succ])
      refine wpAnyH_take (i := 23) (v := ?_) rfl (by kernel_rfl) (by kernel_rfl) (by kernel_rfl) (fun _ _ _ h => h) (Or.inl ⟨by rfl, ?_⟩) (by assumption) ?_
      rotate_left
      · (intro w hSw; (try dsimp only at hSw); go_simp; all_goals with_reducible rfl)
      (try simp only [List.getElem_toArray, List.getElem_cons_succ, List.getElem_cons_zero, Act.put, List.setIfInBounds_toArray, List.set_cons_zero, List.set_cons_succ])
      refine wpAnyH_ready (rs := [24]) (by kernel_rfl) (by simp) ?_
      refine AllReadyH.cons rfl (fun K hK => ?_) AllReadyH.nil
      have z15 := SB5.2.2.2.1
      have zf := SB5.2.2.2.2.1
      have zl := SB5.2.2.2.2.2.1
      have zn := SB5.2.2.2.2.2.2
      (try simp only [List.getElem_toArray, List.getElem_cons_succ, List.getElem_cons_zero])
      go_simp
      refine hK.out _ _ ?_ (fun hHeld => ?_)
      · ((try dsimp only); (refine ⟨?_, ?_, ?_⟩ <;> (rw [World.cell?_setCell_far _ _ _ _ zn]; first | exact SB5.1 | exact SB5.2.1 | exact SB5.2.2.1)))
      clear hK K
      (try simp only [List.getElem_toArray, List.getElem_cons_succ, List.getElem_cons_zero, Act.put, List.setIfInBounds_toArray, List.set_cons_zero, List.set_cons_succ])
      refine wpAnyH_done (by kernel_rfl) ?_ _
      generalize w5.setCell ⟨I.sb, 15, none⟩ (.slice (some ⟨q5, 0, none⟩) (ml + 1) cap5) = w6 at *
      clear SB5 z15 zf zl zn hHeld
      go_wp2_with fail
      go_meet
      case rel => exact ⟨_, HL5.out, HO5.out⟩
  case rest =>
    clear SB2 c15 HTy HMv HT4 HL2 HO2
    obtain ⟨m1, hl1, ho1⟩ := hcut
    have HL1 := hide hl1.out
    have HO1 := hide ho1.out
    clear hl1 ho1
    obtain ⟨w3, hw3⟩ : ∃ w3, w3 = wc := ⟨_, rfl⟩
    subst hw3
    obtain ⟨-, -, -, d3, -⟩ := HL1.out.wc HK.out HX.out
    have f3 := HL1.out.wfz HK.out HX.out 3
    have bl := HL1.out.wlt HK.out HX.out
    have hx6 : x.x + 1 ≤ 1000001 := by have := HM.out.y6; omega
    go_upto_region 3 with fail
    have HL3 : Hid (Sl wb (w3.setCell ⟨b, 3, none⟩ (.int .i64 ((x.x : Int) + 1))) I P S (storeA s k x) v m1) := hide (HL1.out.put HK.out HX.out 3 (.int .i64 ((x.x : Int) + 1)) { x with x := x.x + 1 } (by simp [wkC]))
    have HO3 := hide (HO1.out.trans (SOut.put HK.out 3 (.int .i64 ((x.x : Int) + 1))))
    have HX3 : Hid ((storeA s k x).ws[k]? = some { x with x := x.x + 1 }) := hide (HL1.out.wset HK.out _)
    generalize w3.setCell ⟨b, 3, none⟩ (.int .i64 ((x.x : Int) + 1)) = w4 at *
    clear HL1 HO1 d3 f3 bl
    have HFn : Hid (∀ w' {s' : SlS} {v' m' : Value}, Sl wb w' I P S s' v' m' → s'.ws = (storeA s k x).ws → w'.cell? ⟨b, 0, none⟩ = some (.func (.func (fnOf x.ph)) #[.pointer (some ⟨b, 0, none⟩)] #[]) ∧ w'.cell? ⟨b, 1, none⟩ = some (.pointer (some ⟨I.sb, 0, none⟩)) ∧ w'.cell? ⟨b, 2, none⟩ = some (.int .i64 (x.rg : Int)) ∧ w'.cell? ⟨b, 3, none⟩ = some (.int .i64 ((x.x + 1 : Nat) : Int)) ∧ w'.cell? ⟨b, 4, none⟩ = some (.int .i64 (x.y : Int)) ∧ w'.cell? ⟨b, 5, none⟩ = some (.int .i64 (x.src : Int)) ∧ w'.frozen? ⟨b, 0, none⟩ = false ∧ w'.frozen? ⟨b, 5, none⟩ = false ∧ b < w'.heap.size ∧ b ≠ I.sb) := hide (fun w' {s' v' m'} hL hs => by
      have hx' : s'.ws[k]? = some { x with x := x.x + 1 } := by rw [hs]; exact HX3.out
      have hc := hL.wc HK.out hx'
      exact ⟨hc.1, hc.2.1, hc.2.2.1, hc.2.2.2.1, hc.2.2.2.2.1, hc.2.2.2.2.2.1, hL.wfz HK.out hx' 0, hL.wfz HK.out hx' 5, hL.wlt HK.out hx', hL.wne HK.out hx'⟩)
    obtain ⟨-, -, -, d3, d4, -⟩ := HFn.out _ HL3.out rfl
    by_cases hend : x.x + 1 = x.y
    · have hei : ((x.x + 1 : Nat) : Int) = (x.y : Int) := by omega
      have HSe : Hid (storeS P S s k x = { fillS P (live S) (storeA s k x) x.rg with ws := s.ws.set k ⟨0, x.rg, x.x + 1, x.y, x.src, x.wd⟩ }) := hide (by unfold storeS; rw [if_pos hend])
      have HFi := hide (HM.out.fill hend)
      go_quiet (fail)
      go_wp2_with fail
      have HQ := hide ((Turned.refl [] w4).drewN nq)
      have HL5 := hide (HL3.out.quiet HQ.out)
      have HO5 := hide (HO3.out.trans (SOut.quiet HQ.out))
      generalize w4.drewN nq = w5 at *
      clear HL3 HO3 d3 d4 HQ
      obtain ⟨fa, fn, hmf⟩ := HFi.out
      have HFl : Hid (∀ w', Turned [] w5 w' → Calls Tryz.prog 110 #[.pointer (some ⟨I.sb, 0, none⟩), .int .i64 (x.rg : Int)] w' fun e w'' => e = .returned (.tuple #[]) ∧ ∃ v', Sl wb w'' I P S (fillS P (live S) (storeA s k x) x.rg) v' m1 ∧ SOut I v m1 v' m1 w' w'') := hide (fun w' tt => filled_any wb w' I P S _ v m1 x.rg fa fn (HL5.out.quiet tt) hmf)
      clear hmf HFi
      have HT5 := hide (Turned.refl [] w5).drew
      obtain ⟨-, e1, e2, -⟩ := HFn.out _ (HL5.out.quiet HT5.out) rfl
      go_region_held3 (fun w' => w'.cell? ⟨b, 1, none⟩ = some (.pointer (some ⟨I.sb, 0, none⟩)) ∧ w'.cell? ⟨b, 2, none⟩ = some (.int .i64 (x.rg : Int))) (go_keep)
        (first
          | (go_at_call 110; refine (HFl.out _ HT5.out).mono ?_; rintro e w6 ⟨rfl, v6, h6, o6⟩; have HL6 := hide h6; have HO6 := hide ((HO5.out.trans (SOut.quiet HT5.out)).trans o6); obtain ⟨y0, y1, y2, -, -, -, yf, -, yb, yn⟩ := HFn.out _ HL6.out (fillS_ws _ _ _ _); clear h6 o6))
      clear e1 e2 HFl HT5 HL5 HO5
      have HX6 : Hid ((fillS P (live S) (storeA s k x) x.rg).ws[k]? = some { x with x := x.x + 1 }) := hide (by rw [fillS_ws]; exact HX3.out)
      have HL7 := hide (HL6.out.put HK.out HX6.out 0 (.func (.func 58) #[.pointer (some ⟨b, 0, none⟩)] #[]) ⟨0, x.rg, x.x + 1, x.y, x.src, x.wd⟩ rfl)
      have HO7 := hide (HO6.out.trans (SOut.put HK.out 0 (.func (.func 58) #[.pointer (some ⟨b, 0, none⟩)] #[])))
      go_wp2_with fail
      first | refine bodyPost_end (results_none rfl _ _ _) rfl ?_ | refine bodyPost_ret (results_none rfl _ _ _) rfl ?_
      refine ⟨rfl, v6, m1, ?_, HO7.out⟩
      rw [HSe.out]
      have h9 := HL7.out
      have h8 : (fillS P (live S) (storeA s k x) x.rg).ws.set k ⟨0, x.rg, x.x + 1, x.y, x.src, x.wd⟩ = s.ws.set k ⟨0, x.rg, x.x + 1, x.y, x.src, x.wd⟩ := by
        rw [fillS_ws]; show (s.ws.set k _).set k _ = _; rw [List.set_set]
      rw [h8] at h9
      exact h9
    · have hei : ¬ ((x.x + 1 : Nat) : Int) = (x.y : Int) := by omega
      have HSe : Hid (storeS P S s k x = { storeA s k x with ws := s.ws.set k ⟨1, x.rg, x.x + 1, x.y, srcN P S (x.x + 1), x.wd⟩ }) := hide (by unfold storeS; rw [if_neg hend])
      have HNe := hide (HM.out.next (by have := HM.out.y6; omega))
      go_quiet (fail)
      go_wp2_with fail
      have HQ := hide ((Turned.refl [] w4).drewN nq)
      have HL5 := hide (HL3.out.quiet HQ.out)
      have HO5 := hide (HO3.out.trans (SOut.quiet HQ.out))
      generalize w4.drewN nq = w5 at *
      clear HL3 HO3 d3 d4 HQ
      obtain ⟨z, hz⟩ := HNe.out
      have HZ := hide (srcN_eq hz)
      rw [HZ.out] at HSe
      have HLf : Hid (∀ w', Turned [] w5 w' → Calls Tryz.prog 111 #[.pointer (some ⟨I.sb, 0, none⟩), .int .i64 ((x.src : Int) + 1)] w' fun e w'' => e = .returned (.int .i64 (z : Int)) ∧ Turned [] w' w'') := hide (fun w' tt => livefrom_any wb w' I P S _ v m1 x.x x.src z (HL5.out.quiet tt) HM.out.src hz HM.out.d_)
      have hsr : x.src ≤ 65536 := by have h1 := HM.out.src.2.1; have h2 := HL5.out.c.tn; have h3 := HL5.out.c.br.few; omega
      have hw1 : IntKind.i64.wrap ((x.src : Int) + 1) = (x.src : Int) + 1 := by rw [IntKind.wrap_i64]; omega
      clear hz HNe
      have HT5 := hide (Turned.refl [] w5).drew
      have HKp : Hid (∀ w', Sl wb w' I P S (storeA s k x) v m1 → (∀ u, (w'.setCell ⟨b, 5, none⟩ u).cell? ⟨b, 1, none⟩ = some (.pointer (some ⟨I.sb, 0, none⟩)))) := hide (fun w' hL u => by
        rw [cell_put (hL.wblk HK.out HX3.out) (by decide)]; exact (hL.wc HK.out HX3.out).2.1)
      obtain ⟨-, e1, -, -, -, e5, -⟩ := HFn.out _ (HL5.out.quiet HT5.out) rfl
      refine wp_region_held_drew (S := (fun w' => w'.cell? ⟨b, 1, none⟩ = some (.pointer (some ⟨I.sb, 0, none⟩)))) (by kernel_rfl) e1 (fun hHeld => ?_)
      refine wpAnyH_take (i := 0) (v := ?_) rfl (by kernel_rfl) (by kernel_rfl) (by kernel_rfl) (fun _ _ _ h => h) (Or.inl ⟨by rfl, ?_⟩) (by assumption) ?_
      rotate_left
      · (intro w hSw; (try dsimp only at hSw); go_simp; all_goals with_reducible rfl)
      (try simp only [List.getElem_toArray, List.getElem_cons_succ, List.getElem_cons_zero, Act.put, List.setIfInBounds_toArray, List.set_cons_zero, List.set_cons_succ])
      refine wpAnyH_take (i := 1) (v := ?_) rfl (by kernel_rfl) (by kernel_rfl) (by kernel_rfl) (fun _ _ _ h => h) (Or.inl ⟨by rfl, ?_⟩) (by assumption) ?_
      rotate_left
      · (intro w hSw; (try dsimp only at hSw); go_simp; all_goals with_reducible rfl)
      (try simp only [List.getElem_toArray, List.getElem_cons_succ, List.getElem_cons_zero, Act.put, List.setIfInBounds_toArray, List.set_cons_zero, List.set_cons_succ])
      refine wpAnyH_take (i := 2) (v := ?_) rfl (by kernel_rfl) (by kernel_rfl) (by kernel_rfl) (fun _ _ _ h => h) (Or.inl ⟨by rfl, ?_⟩) (by assumption) ?_
      rotate_left
      · (intro w hSw; (try dsimp only at hSw); go_simp; all_goals with_reducible rfl)
      (try simp only [List.getElem_toArray, List.getElem_cons_succ, List.getElem_cons_zero, Act.put, List.setIfInBounds_toArray, List.set_cons_zero, List.set_cons_succ])
      refine wpAnyH_take (i := 3) (v := ?_) rfl (by kernel_rfl) (by kernel_rfl) (by kernel_rfl) (fun _ _ _ h => h) (Or.inl ⟨by rfl, ?_⟩) (by assumption) ?_
      rotate_left
      · (intro w hSw; (try dsimp only at hSw); go_simp; all_goals with_reducible rfl)
      (try simp only [List.getElem_toArray, List.getElem_cons_succ, List.getElem_cons_zero, Act.put, List.setIfInBounds_toArray, List.set_cons_zero, List.set_cons_succ])
      refine wpAnyH_take (i := 4) (v := ?_) rfl (by kernel_rfl) (by kernel_rfl) (by kernel_rfl) (fun _ _ _ h => h) (Or.inl ⟨by rfl, ?_⟩) (by assumption) ?_
      rotate_left
      · (intro w hSw; (try dsimp only at hSw); go_simp; all_goals with_reducible rfl)
      (try simp only [List.getElem_toArray, List.getElem_cons_succ, List.getElem_cons_zero, Act.put, List.setIfInBounds_toArray, List.set_cons_zero, List.set_cons_succ])
      refine wpAnyH_take (i := 5) (v := ?_) rfl (by kernel_rfl) (by kernel_rfl) (by kernel_rfl) (fun _ _ _ h => h) (Or.inl ⟨by rfl, ?_⟩) (by assumption) ?_
      rotate_left
      · (intro w hSw; (try dsimp only at hSw); go_simp; all_goals with_reducible rfl)
      (try simp only [List.getElem_toArray, List.getElem_cons_succ, List.getElem_cons_zero, Act.put, List.setIfInBounds_toArray, List.set_cons_zero, List.set_cons_succ])
      refine wpAnyH_take (i := 6) (v := ?_) rfl (by kernel_rfl) (by kernel_rfl) (by kernel_rfl) (fun _ _ _ h => h) (Or.inl ⟨by rfl, ?_⟩) (by assumption) ?_
      rotate_left
      · (intro w hSw; (try dsimp only at hSw); go_simp; all_goals with_reducible rfl)
      (try simp only [List.getElem_toArray, List.getElem_cons_succ, List.getElem_cons_zero, Act.put, List.setIfInBounds_toArray, List.set_cons_zero, List.set_cons_succ])
      refine wpAnyH_take (i := 7) (v := ?_) rfl (by kernel_rfl) (by kernel_rfl) (by kernel_rfl) (fun _ _ _ h => h) (Or.inl ⟨by rfl, ?_⟩) (by assumption) ?_
      rotate_left
      · (intro w hSw; (try dsimp only at hSw); go_simp; all_goals with_reducible rfl)
      (try simp only [List.getElem_toArray, List.getElem_cons_succ, List.getElem_cons_zero, Act.put, List.setIfInBounds_toArray, List.set_cons_zero, List.set_cons_succ])
      refine wpAnyH_ready (rs := [8]) (by kernel_rfl) (by simp) ?_
      refine AllReadyH.cons rfl (fun K hK => ?_) AllReadyH.nil
      (try simp only [List.getElem_toArray, List.getElem_cons_succ, List.getElem_cons_zero])
      go_simp
      refine hK.out _ _ ?_ (fun hHeld => ?_)
      · ((try dsimp only); assumption)
      clear hK K
      (try simp only [List.getElem_toArray, List.getElem_cons_succ, List.getElem_cons_zero, Act.put, List.setIfInBounds_toArray, List.set_cons_zero, List.set_cons_succ])
      refine wpAnyH_take (i := 9) (v := ?_) rfl (by kernel_rfl) (by kernel_rfl) (by kernel_rfl) (fun _ _ _ h => h) (Or.inl ⟨by rfl, ?_⟩) (by assumption) ?_
      rotate_left
      · (intro w hSw; (try dsimp only at hSw); go_simp; all_goals with_reducible rfl)
      (try simp only [List.getElem_toArray, List.getElem_cons_succ, List.getElem_cons_zero, Act.put, List.setIfInBounds_toArray, List.set_cons_zero, List.set_cons_succ])
      refine wpAnyH_ready (rs := [10]) (by kernel_rfl) (by simp) ?_
      refine AllReadyH.cons rfl (fun K hK => ?_) AllReadyH.nil
      (try simp only [List.getElem_toArray, List.getElem_cons_succ, List.getElem_cons_zero])
      go_simp
      refine (HLf.out _ HT5.out).mono ?_
      rintro e w6 ⟨rfl, t6⟩
      have HT6 := hide (HT5.out.trans t6)
      have SB1 := HKp.out _ (HL5.out.quiet HT6.out)
      obtain ⟨y0, y1, y2, -, -, y5, -, yf, yb, yn⟩ := HFn.out _ (HL5.out.quiet HT6.out) rfl
      clear t6
      refine hK.out _ _ ?_ (fun hHeld => ?_)
      · ((try dsimp only); exact y1)
      clear hK K
      (try simp only [List.getElem_toArray, List.getElem_cons_succ, List.getElem_cons_zero, Act.put, List.setIfInBounds_toArray, List.set_cons_zero, List.set_cons_succ])
      refine wpAnyH_take (i := 11) (v := ?_) rfl (by kernel_rfl) (by kernel_rfl) (by kernel_rfl) (fun _ _ _ h => h) (Or.inl ⟨by rfl, ?_⟩) (by assumption) ?_
      rotate_left
      · (intro w hSw; (try dsimp only at hSw); go_simp; all_goals with_reducible rfl)
      (try simp only [List.getElem_toArray, List.getElem_cons_succ, List.getElem_cons_zero, Act.put, List.setIfInBounds_toArray, List.set_cons_zero, List.set_cons_succ])
      refine wpAnyH_take (i := 12) (v := ?_) rfl (by kernel_rfl) (by kernel_rfl) (by kernel_rfl) (fun _ _ _ h => h) (Or.inl ⟨by rfl, ?_⟩) (by assumption) ?_
      rotate_left
      · (intro w hSw; (try dsimp only at hSw); go_simp; all_goals with_reducible rfl)
      (try simp only [List.getElem_toArray, List.getElem_cons_succ, List.getElem_cons_zero, Act.put, List.setIfInBounds_toArray, List.set_cons_zero, List.set_cons_succ])
      refine wpAnyH_ready (rs := [13]) (by kernel_rfl) (by simp) ?_
      refine AllReadyH.cons rfl (fun K hK => ?_) AllReadyH.nil
      (try simp only [List.getElem_toArray, List.getElem_cons_succ, List.getElem_cons_zero])
      go_simp
      refine hK.out _ _ ?_ (fun hHeld => ?_)
      · ((try dsimp only); exact SB1 _)
      clear hK K
      (try simp only [List.getElem_toArray, List.getElem_cons_succ, List.getElem_cons_zero, Act.put, List.setIfInBounds_toArray, List.set_cons_zero, List.set_cons_succ])
      refine wpAnyH_done (by kernel_rfl) ?_ _
      have HL7 := hide ((HL5.out.quiet HT6.out).put HK.out HX3.out 5 (.int .i64 (z : Int)) { x with x := x.x + 1, src := z } rfl)
      have HX7 := hide ((HL5.out.quiet HT6.out).wset HK.out { x with x := x.x + 1, src := z })
      have HO7 := hide ((HO5.out.trans (SOut.quiet HT6.out)).trans (SOut.put HK.out 5 (.int .i64 (z : Int))))
      generalize w6.setCell ⟨b, 5, none⟩ (.int .i64 (z : Int)) = w7 at *
      clear e1 e5 y0 y1 y2 y5 yf yb yn SB1 HKp HLf HT5 HT6 HL5 HO5 hHeld hw1
      obtain ⟨d0, -⟩ := HL7.out.wc HK.out HX7.out
      have f0 := HL7.out.wfz HK.out HX7.out 0
      have bl := HL7.out.wlt HK.out HX7.out
      have HL8 := hide (HL7.out.put HK.out HX7.out 0 (.func (.func 89) #[.pointer (some ⟨b, 0, none⟩)] #[]) ⟨1, x.rg, x.x + 1, x.y, z, x.wd⟩ rfl)
      go_wp2_with fail
      first | refine bodyPost_end (results_none rfl _ _ _) rfl ?_ | refine bodyPost_ret (results_none rfl _ _ _) rfl ?_
      refine ⟨rfl, v, m1, ?_, HO7.out.trans (SOut.put HK.out 0 _)⟩
      rw [HSe.out]
      have h9 := HL8.out
      have h8 : ((storeA s k x).ws.set k { x with x := x.x + 1, src := z }).set k ⟨1, x.rg, x.x + 1, x.y, z, x.wd⟩ = s.ws.set k ⟨1, x.rg, x.x + 1, x.y, z, x.wd⟩ := by
        show ((s.ws.set k _).set k _).set k _ = _; rw [List.set_set, List.set_set]
      rw [h8] at h9
      exact h9
end Go.Proofs.YtbmlggemheljkaaGreatDoor

/-
  A slider's Step: one pure function of its state. Moves, Waits.
-/
namespace Go.Proofs.YtbmlggemheljkaaGreatDoor
open Go.RowKit Bt
set_option linter.unusedVariables false
set_option linter.unusedSimpArgs false

/-- A worker's next step. -/
noncomputable def workS (P : PN) (S : Nat → Nat) (s : SlS) (k : Nat) (x : SlW) : SlS := if x.ph = 0 then takeS P S s k x else if x.ph = 1 then readS s k x else storeS P S s k x
/-- Step, pure. -/
noncomputable def stepSl (P : PN) (S : Nat → Nat) (s : SlS) (k : Nat) : SlS := if s.left = 0 then s else match s.ws[k]? with
  | none => s
  | some x => workS P S s k x
def toldS (s' : SlS) : Int := if s'.left = 0 then 2 else 0
/-- What a step asks. -/
structure MayW (P : PN) (S : Nat → Nat) (s : SlS) (k : Nat) (x : SlW) : Prop where
  ph : x.ph ≤ 2
  take : x.ph = 0 → s.H.length ≠ 0 → leastV s.H < P.R ∧ gF P (leastV s.H) < gT P (leastV s.H)
  read : x.ph = 1 → x.src < s.hw.length
  store : x.ph = 2 → MayS P S s k x

theorem work_any (wb w : World) (I : SlI) (P : PN) (S : Nat → Nat) (s : SlS) (v m : Value) (k b : Nat) (x : SlW) (h : Sl wb w I P S s v m) (hk : I.ws[k]? = some b) (hx : s.ws[k]? = some x) (hm : MayW P S s k x) :
    Calls Tryz.prog (fnOf x.ph) #[.pointer (some ⟨b, 0, none⟩)] w fun e w' => e = .returned (.tuple #[]) ∧ ∃ v' m', Sl wb w' I P S (workS P S s k x) v' m' ∧ SOut I v m v' m' w w' := by
  unfold workS fnOf
  by_cases h0 : x.ph = 0
  · rw [if_pos h0, if_pos h0]
    refine (take_any wb w I P S s v m k b x h hk hx (hm.take h0)).mono ?_
    rintro e w' ⟨rfl, v', h1, h2⟩
    exact ⟨rfl, v', m, h1, h2⟩
  · rw [if_neg h0, if_neg h0]
    by_cases h1 : x.ph = 1
    · rw [if_pos h1, if_pos h1]
      refine (read_any wb w I P S s v m k b x h hk hx (hm.read h1)).mono ?_
      rintro e w' ⟨rfl, h1, h2⟩
      exact ⟨rfl, v, m, h1, h2⟩
    · rw [if_neg h1, if_neg h1]
      have h2 : x.ph = 2 := by have := hm.ph; omega
      exact store_any wb w I P S s v m k b x h hk hx (hm.store h2)

set_option maxHeartbeats 1000000 in
set_option maxRecDepth 100000 in
theorem sstep_any (wb w : World) (I : SlI) (P : PN) (S : Nat → Nat) (s : SlS) (v m : Value) (k : Nat) (h : Sl wb w I P S s v m) (hk : k < I.ws.length) (hn : I.ws.length ≤ 64) (hm : s.left ≠ 0 → ∀ x, s.ws[k]? = some x → MayW P S s k x) :
    Calls Tryz.prog 16 #[.pointer (some ⟨I.sb, 0, none⟩), .int .i64 (k : Int)] w fun e w' => e = .returned (.int .i64 (toldS (stepSl P S s k))) ∧ ∃ v' m', Sl wb w' I P S (stepSl P S s k) v' m' ∧ SOut I v m v' m' w w' := by
  have HL := hide h
  have HD := hide (sdone_any wb w I P S s v m h)
  by_cases h0 : s.left = 0
  · have he : stepSl P S s k = s := by unfold stepSl; rw [if_pos h0]
    rw [he]
    unfold toldS
    rw [if_pos h0]
    rw [decide_eq_true h0] at HD
    clear h hm he h0
    go_enter Tryz.func16, Tryz.ntmps16
    go_wp2_with fail
    refine (HD.out).mono ?_
    rintro e1 w1 ⟨rfl, hw1⟩
    subst hw1
    clear HD
    go_wp2_with fail
    go_ret
    exact ⟨rfl, v, m, HL.out, SOut.quiet (Turned.refl _ _)⟩
  · obtain ⟨b, hb⟩ : ∃ b, I.ws[k]? = some b := ⟨_, List.getElem?_eq_getElem hk⟩
    obtain ⟨x, hx⟩ : ∃ x, s.ws[k]? = some x := ⟨_, List.getElem?_eq_getElem (by rw [h.len]; exact hk)⟩
    have he : stepSl P S s k = workS P S s k x := by unfold stepSl; rw [if_neg h0, hx]
    rw [he]
    have HW := hide (work_any wb w I P S s v m k b x h hb hx (hm h0 x hx))
    have HPh := hide (hm h0 x hx).ph
    obtain ⟨-, -, c11, -⟩ := h.cs
    obtain ⟨d0, -⟩ := h.wc hb hx
    have cr : w.cell? ⟨I.wr, k, none⟩ = some (.pointer (some ⟨b, 0, none⟩)) := by
      rw [cell_of_heap h.row]
      simp [hb]
    rw [decide_eq_false h0] at HD
    have hki : (k : Int) < (I.ws.length : Int) := by omega
    have hki2 : ¬ (I.ws.length : Int) ≤ (k : Int) := by omega
    obtain ⟨s2, hs2⟩ : ∃ s2, s2 = workS P S s k x := ⟨_, rfl⟩
    rw [← hs2] at HW ⊢
    have HT : Hid (∀ w2 v2 m2, Sl wb w2 I P S s2 v2 m2 → Calls Tryz.prog 13 #[.pointer (some ⟨I.sb, 0, none⟩)] w2 fun e w' => e = .returned (.bool (decide (s2.left = 0))) ∧ w' = w2) := hide (fun w2 v2 m2 h2 => sdone_any wb w2 I P S s2 v2 m2 h2)
    unfold toldS
    obtain ⟨dn, hdn⟩ : ∃ dn, dn = decide (s2.left = 0) := ⟨_, rfl⟩
    rw [← hdn] at HT
    have HDn : Hid ((if s2.left = 0 then (2 : Int) else 0) = if dn = true then 2 else 0) := hide (by rw [hdn]; by_cases h3 : s2.left = 0 <;> simp [h3])
    rw [HDn.out]
    clear h hm he h0 hb hx hs2 hdn HDn
    generalize I.ws.length = n at *
    rcases (show x.ph = 0 ∨ x.ph = 1 ∨ x.ph = 2 by have := HPh.out; omega) with hp | hp | hp
    all_goals
      rw [hp] at HW d0
      first
        | rw [show fnOf 0 = 58 from rfl] at HW d0
        | rw [show fnOf 1 = 89 from rfl] at HW d0
        | rw [show fnOf 2 = 100 from rfl] at HW d0
      clear hp
      go_enter Tryz.func16, Tryz.ntmps16
      go_wp2_with fail
      refine (HD.out).mono ?_
      rintro e1 w1 ⟨rfl, hw1⟩
      subst hw1
      clear HD
      go_wp2_with fail
      refine (HW.out).mono ?_
      rintro e1 w2 ⟨rfl, v2, m2, h2, o2⟩
      have HL2 := hide h2
      have HO2 := hide o2
      have HD2 := hide (HT.out w2 v2 m2 h2)
      clear h2 o2 HW HT d0 cr c11
      go_wp2_with fail
      refine (HD2.out).mono ?_
      rintro e1 w3 ⟨rfl, hw3⟩
      subst hw3
      clear HD2
      cases dn
      · go_wp2_with fail
        go_ret
        exact ⟨by simp, v2, m2, HL2.out, HO2.out⟩
      · go_wp2_with fail
        go_ret
        exact ⟨by simp, v2, m2, HL2.out, HO2.out⟩
end Go.Proofs.YtbmlggemheljkaaGreatDoor

/-
  slices.Equal of lists that are the same; slices.Clone of a row of numbers.
-/
namespace Go.Proofs.YtbmlggemheljkaaGreatDoor
open Go.RowKit Bt
set_option linter.unusedVariables false
set_option linter.unusedSimpArgs false

theorem int_eq (d : Nat) (a c : Int) (w : World) : (Op.equalIn (d + 1) 3 (.int .i64 a) (.int .i64 c)).run Tryz.prog w = .ok (a == c) w := by
  unfold Op.equalIn
  simp [go_sem]
theorem two_eq (d : Nat) (a b c e : Int) (w : World) : (Op.equalIn (d + 2) 46 (.agg #[.int .i64 a, .int .i64 b]) (.agg #[.int .i64 c, .int .i64 e])).run Tryz.prog w = .ok (a == c && b == e) w := by
  have hA : ∀ w, (isAgg 3).run Tryz.prog w = .ok false w := fun _ => by kernel_rfl
  unfold Op.equalIn
  simp [go_sem]
  rw [show List.range' 0 2 = [0, 1] from rfl]
  by_cases h1 : a = c
  · by_cases h2 : b = e
    · simp [go_sem, hA, int_eq, h1, h2]
    · simp [go_sem, hA, int_eq, h1, h2]
  · simp [go_sem, hA, int_eq, h1]
theorem two_neq (a b c d : Int) (w : World) : (Go.binOp .neq 46 (.agg #[.int .i64 a, .int .i64 b]) (.agg #[.int .i64 c, .int .i64 d])).run Tryz.prog w = .ok (.bool (!(a == c && b == d))) w := by
  have h := two_eq 9998 a b c d w
  simp only [Go.binOp, Op.equal, go_sem]
  rw [show Op.maxDepth = 9998 + 2 from rfl, Sem.run_bind, h]
  rfl
theorem two_eql (a b c d : Int) (w : World) : (Go.binOp .eql 46 (.agg #[.int .i64 a, .int .i64 b]) (.agg #[.int .i64 c, .int .i64 d])).run Tryz.prog w = .ok (.bool (a == c && b == d)) w := by
  have h := two_eq 9998 a b c d w
  simp only [Go.binOp, Op.equal, go_sem]
  rw [show Op.maxDepth = 9998 + 2 from rfl, Sem.run_bind, h]
  rfl
theorem two_guard (op : BinOp) (x y : Operand) (a b c d : Int) (w : World) : (eqGuard op 46 x y (.agg #[.int .i64 a, .int .i64 b]) (.agg #[.int .i64 c, .int .i64 d])).run Tryz.prog w = .ok () w := by cases op <;> kernel_rfl
/-- A slice of numbers that can be read. -/
def Rdi (w : World) (ao : Option Addr) (n : Nat) (g : Nat → Int) : Prop := ∀ i, i < n → ∃ q, ao = some ⟨q, 0, none⟩ ∧ w.cell? ⟨q, i, none⟩ = some (.int .i64 (g i))
theorem Rdi.turned0 {w w' : World} {ao : Option Addr} {n : Nat} {g : Nat → Int} (h : Rdi w ao n g) (t : Turned [] w w') : Rdi w' ao n g := fun i hi => by
  obtain ⟨q, h1, h2⟩ := h i hi
  exact ⟨q, h1, by rw [t.cell (block_lt h2) (by simp)]; exact h2⟩
theorem Ri.rdi {w : World} {q n : Nat} {g : Nat → Int} (h : Ri w 3 q n g) : Rdi w (some ⟨q, 0, none⟩) n g := fun i hi => ⟨q, rfl, h.cell hi⟩
theorem own_rdi {w : World} {B : Nat} {v : Value} {n : Nat} {g : Nat → Nat} (h : w.ownsRow B 3 1 v n (rowOf g n)) : ∃ ao c, v = .slice ao n c ∧ Rdi w ao n (fun i => (g i : Nat)) := by
  obtain ⟨-, ao, c, hv, -⟩ := ownsRow_any h
  refine ⟨ao, c, hv, fun i hi => ?_⟩
  obtain ⟨q, cap, he, _, _, _, _, h6, _⟩ := own_open h (by omega)
  rw [hv] at he
  cases he
  exact ⟨q, rfl, h6 i hi⟩
set_option maxRecDepth 100000 in
theorem equal_ints (ao bo : Option Addr) (n ca cb : Nat) (g : Nat → Int) (w : World) (ha : Rdi w ao n g) (hb : Rdi w bo n g) (hn : n ≤ 65536) :
    Calls Tryz.prog 85 #[.slice ao n ca, .slice bo n cb] w fun e w' => e = .returned (.bool true) ∧ Turned [] w w' := by
  have HA := hide ha
  have HB := hide hb
  clear ha hb
  go_enter Tryz.func85, Tryz.ntmps85
  go_wp2_with fail
  go_loopg [5, 13] n (fun gg s5 s13 wr => ∃ i : Nat, gg = n - i ∧ i ≤ n ∧ s13 = .int .i64 (i : Int) ∧ Hid (Turned [] w wr))
  case atStart => exact ⟨0, rfl, Nat.zero_le _, rfl, hide (Turned.refl _ _)⟩
  case round =>
    obtain ⟨i, rfl, hi, rfl, HT⟩ := hrel
    obtain ⟨w1, hw1⟩ : ∃ w1, w1 = wr := ⟨_, rfl⟩
    subst hw1
    by_cases hlt : i < n
    · have hlti : (i : Int) < (n : Int) := by omega
      obtain ⟨q, rfl, c1⟩ := (HA.out.turned0 HT.out) i hlt
      obtain ⟨q2, rfl, c2⟩ := (HB.out.turned0 HT.out) i hlt
      generalize g i = z at *
      go_wp2_with fail
      go_quiet (fail)
      have HT2 := hide (HT.out.drewN nq)
      go_wp2_with fail
      go_roundg (n - (i + 1))
      case measure => omega
      case rel => exact ⟨i + 1, rfl, hlt, by go_num, HT2⟩
    · have hlti : ¬ (i : Int) < (n : Int) := by omega
      go_wp2_with fail
      go_ret
      exact ⟨rfl, HT.out⟩
set_option maxRecDepth 100000 in
theorem equal_pairs (q1 q2 n ca cb : Nat) (g : Nat → Nat → Int) (w : World) (ha : Rp w q1 n g) (hb : Rp w q2 n g) (hn : n ≤ 65536) :
    Calls Tryz.prog 86 #[.slice (some ⟨q1, 0, none⟩) n ca, .slice (some ⟨q2, 0, none⟩) n cb] w fun e w' => e = .returned (.bool true) ∧ Turned [] w w' := by
  have HA := hide ha
  have HB := hide hb
  clear ha hb
  go_enter Tryz.func86, Tryz.ntmps86
  go_wp2_with fail
  go_loopg [5, 13] n (fun gg s5 s13 wr => ∃ i : Nat, gg = n - i ∧ i ≤ n ∧ s13 = .int .i64 (i : Int) ∧ Hid (Turned [] w wr))
  case atStart => exact ⟨0, rfl, Nat.zero_le _, rfl, hide (Turned.refl _ _)⟩
  case round =>
    obtain ⟨i, rfl, hi, rfl, HT⟩ := hrel
    obtain ⟨w1, hw1⟩ : ∃ w1, w1 = wr := ⟨_, rfl⟩
    subst hw1
    by_cases hlt : i < n
    · have hlti : (i : Int) < (n : Int) := by omega
      have c1 := (HA.out.turned0 HT.out).cell (i := i) (s := 0) hlt (by decide)
      have c2 := (HA.out.turned0 HT.out).cell (i := i) (s := 1) hlt (by decide)
      have c3 := (HB.out.turned0 HT.out).cell (i := i) (s := 0) hlt (by decide)
      have c4 := (HB.out.turned0 HT.out).cell (i := i) (s := 1) hlt (by decide)
      rw [Nat.add_zero] at c1 c3
      generalize g i 0 = z0 at *
      generalize g i 1 = z1 at *
      have hg := fun (x y : Operand) (w : World) => two_guard .neq x y z0 z1 z0 z1 w
      have hq := fun (w : World) => two_neq z0 z1 z0 z1 w
      simp only [beq_self_eq_true, Bool.and_self, Bool.not_true] at hq
      go_wp2_with fail
      go_quiet (fail)
      have HT2 := hide (HT.out.drewN nq)
      go_wp2_with fail
      go_roundg (n - (i + 1))
      case measure => omega
      case rel => exact ⟨i + 1, rfl, hlt, by go_num, HT2⟩
    · have hlti : ¬ (i : Int) < (n : Int) := by omega
      go_wp2_with fail
      go_ret
      exact ⟨rfl, HT.out⟩

/-- A slider's plan is alike the document's. -/
theorem alike_any (P : PN) (S : Nat → Nat) (lq aq wq tq wq2 tq2 : Nat) (l a : Value) (w : World) (h1 : Pln w P S lq aq wq tq) (h2 : DPl w P S l a wq2 tq2) (hR : P.R ≤ 65536) :
    Calls Tryz.prog 57 #[.agg (plC P (slc lq P.R) (slc aq P.R) (slc wq P.R) (slc tq P.R)), .agg (plC P l a (slc wq2 P.R) (slc tq2 P.R))] w fun e w' => e = .returned (.bool true) ∧ Turned [] w w' := by
  obtain ⟨B1, ho1⟩ := h2.lv
  obtain ⟨B2, ho2⟩ := h2.ah
  obtain ⟨lo, lc, hl, hlr⟩ := own_rdi ho1
  obtain ⟨ao, ac, ha, har⟩ := own_rdi ho2
  subst hl ha
  have HE1 := hide (fun (w' : World) (tt : Turned [] w w') => equal_ints (some ⟨lq, 0, none⟩) lo P.R P.R lc _ w' (h1.lv.turned0 tt).rdi (hlr.turned0 tt) hR)
  have HE2 := hide (fun (w' : World) (tt : Turned [] w w') => equal_ints (some ⟨aq, 0, none⟩) ao P.R P.R ac _ w' (Ri.rdi (h1.ah.turned0 tt)) (har.turned0 tt) hR)
  have HE3 := hide (fun (w' : World) (tt : Turned [] w w') => equal_ints (some ⟨wq, 0, none⟩) (some ⟨wq2, 0, none⟩) P.R P.R P.R _ w' (h1.wt.turned0 tt).rdi (h2.wt.turned0 tt).rdi hR)
  have HE4 := hide (fun (w' : World) (tt : Turned [] w w') => equal_pairs tq tq2 P.R P.R P.R _ w' (h1.tk.turned0 tt) (h2.tk.turned0 tt) hR)
  clear h1 h2 ho1 ho2 hlr har
  obtain ⟨f, t, k, d, e⟩ := P
  generalize PN.R ⟨f, t, k, d, e⟩ = R at *
  unfold plC slc
  obtain ⟨w0, hw0⟩ : ∃ w0, w0 = (w.alloc (.cells #[.int .i64 (f : Int), .int .i64 (t : Int), .int .i64 (k : Int), .int .i64 (d : Int), .int .i64 (e : Int), .slice (some ⟨lq, 0, none⟩) R R, .slice (some ⟨aq, 0, none⟩) R R, .slice (some ⟨wq, 0, none⟩) R R, .slice (some ⟨tq, 0, none⟩) R R] 39)).alloc (.cells #[.int .i64 (f : Int), .int .i64 (t : Int), .int .i64 (k : Int), .int .i64 (d : Int), .int .i64 (e : Int), .slice lo R lc, .slice ao R ac, .slice (some ⟨wq2, 0, none⟩) R R, .slice (some ⟨tq2, 0, none⟩) R R] 39) := ⟨_, rfl⟩
  have hT0 : Turned [] w w0 := by rw [hw0]; exact ((Turned.refl [] w).alloc _).alloc _
  have hp0 : Pb w0 w.heap.size ⟨f, t, k, d, e⟩ (.slice (some ⟨lq, 0, none⟩) R R) (.slice (some ⟨aq, 0, none⟩) R R) (.slice (some ⟨wq, 0, none⟩) R R) (.slice (some ⟨tq, 0, none⟩) R R) := by
    rw [hw0]
    unfold Pb
    rw [Below.heap_alloc _ _ _ (by simp)]
    exact heap_alloc_new _ _
  have hp1 : Pb w0 (w.heap.size + 1) ⟨f, t, k, d, e⟩ (.slice lo R lc) (.slice ao R ac) (.slice (some ⟨wq2, 0, none⟩) R R) (.slice (some ⟨tq2, 0, none⟩) R R) := by
    rw [hw0]
    unfold Pb
    have := heap_alloc_new (w.alloc (.cells #[.int .i64 (f : Int), .int .i64 (t : Int), .int .i64 (k : Int), .int .i64 (d : Int), .int .i64 (e : Int), .slice (some ⟨lq, 0, none⟩) R R, .slice (some ⟨aq, 0, none⟩) R R, .slice (some ⟨wq, 0, none⟩) R R, .slice (some ⟨tq, 0, none⟩) R R] 39)) (.cells #[.int .i64 (f : Int), .int .i64 (t : Int), .int .i64 (k : Int), .int .i64 (d : Int), .int .i64 (e : Int), .slice lo R lc, .slice ao R ac, .slice (some ⟨wq2, 0, none⟩) R R, .slice (some ⟨tq2, 0, none⟩) R R] 39)
    rw [show ∀ o : Obj, (w.alloc o).heap.size = w.heap.size + 1 from fun o => by simp] at this
    exact this
  have HT0 := hide hT0
  have HP0 := hide hp0
  have HP1 := hide hp1
  clear hT0 hp0 hp1
  obtain ⟨a0, a1, a2, a3, a4, a5, a6, a7, a8⟩ := HP0.out.cs
  obtain ⟨b0, b1, b2, b3, b4, b5, b6, b7, b8⟩ := HP1.out.cs
  clear a0 a1 a2 a3 a4 a5 a6 a7 a8 b0 b1 b2 b3 b4 b5 b6 b7 b8
  go_enter Tryz.func57, Tryz.ntmps57
  go_wp2_with fail
  rw [← hw0]
  clear hw0
  have HPa0 := HP0
  have HPb0 := HP1
  refine (HE1.out _ HT0.out).mono ?_
  rintro e1 w1 ⟨rfl, t1⟩
  have HT1 := hide (HT0.out.trans t1)
  have HPa1 := hide (HPa0.out.turned0 t1)
  have HPb1 := hide (HPb0.out.turned0 t1)
  clear t1
  obtain ⟨-, -, -, -, -, a5, a6, a7, a8⟩ := HPa1.out.cs
  obtain ⟨-, -, -, -, -, b5, b6, b7, b8⟩ := HPb1.out.cs
  go_wp2_with fail
  clear a5 a6 a7 a8 b5 b6 b7 b8
  refine (HE2.out _ HT1.out).mono ?_
  rintro e1 w2 ⟨rfl, t1⟩
  have HT2 := hide (HT1.out.trans t1)
  have HPa2 := hide (HPa1.out.turned0 t1)
  have HPb2 := hide (HPb1.out.turned0 t1)
  clear t1
  obtain ⟨-, -, -, -, -, a5, a6, a7, a8⟩ := HPa2.out.cs
  obtain ⟨-, -, -, -, -, b5, b6, b7, b8⟩ := HPb2.out.cs
  go_wp2_with fail
  clear a5 a6 a7 a8 b5 b6 b7 b8
  refine (HE3.out _ HT2.out).mono ?_
  rintro e1 w3 ⟨rfl, t1⟩
  have HT3 := hide (HT2.out.trans t1)
  have HPa3 := hide (HPa2.out.turned0 t1)
  have HPb3 := hide (HPb2.out.turned0 t1)
  clear t1
  obtain ⟨-, -, -, -, -, a5, a6, a7, a8⟩ := HPa3.out.cs
  obtain ⟨-, -, -, -, -, b5, b6, b7, b8⟩ := HPb3.out.cs
  go_wp2_with fail
  clear a5 a6 a7 a8 b5 b6 b7 b8
  refine (HE4.out _ HT3.out).mono ?_
  rintro e1 w4 ⟨rfl, t1⟩
  have HT4 := hide (HT3.out.trans t1)
  clear t1
  go_wp2_with fail
  go_ret
  exact ⟨rfl, HT4.out⟩
end Go.Proofs.YtbmlggemheljkaaGreatDoor

/-
  A slider is made: the plan made anew.
-/
namespace Go.Proofs.YtbmlggemheljkaaGreatDoor
open Go.RowKit Bt
set_option linter.unusedVariables false
set_option linter.unusedSimpArgs false

theorem makes_least {n : Nat} {S : Nat → Nat} (hs : Bl n S) {f t k v : Nat} {P : PN} (hP : Makes S f t k v P) (ho : P.Ok) : Makes S f t k (deadTo P (live S) P.d) P := by
  obtain ⟨K, a1, a2⟩ := hP.d_
  have hge := PN.ed_ge ho K
  have hdd : deadTo P (live S) P.d = deadTo P (live S) (P.ed K) := by
    rcases a2 with ⟨a, h1, h2, h3⟩ | ⟨_, h1⟩
    · have hc : ∀ j, P.ed K + j ≤ P.d → cnt (live S) (P.ed K + j) = cnt (live S) (P.ed K) + j := by
        intro j
        induction j with
        | zero => intro _; rfl
        | succ j ih =>
          intro hj
          rw [← Nat.add_assoc, cnt_at, ih (by omega)]
          · rfl
          · unfold live
            rw [bo_true]
            exact ⟨a, by omega, by omega⟩
      have hl := hc (P.d - P.ed K) (by omega)
      rw [show P.ed K + (P.d - P.ed K) = P.d by omega] at hl
      unfold deadTo
      have h5 := cnt_mono (live S) hge
      have h6 := cnt_gap (live S) hge
      omega
    · rw [h1]
  refine ⟨hP.f_, hP.t_, hP.k_, hP.e_, K, ⟨a1.le, by rw [hdd]; exact Nat.le_refl _, ?_⟩, a2⟩
  rcases a1.most with h | h
  · exact .inl h
  · right; rw [hdd]; have := a1.may; omega
theorem makes_uniq {n : Nat} {S : Nat → Nat} (hs : Bl n S) {f t k v : Nat} {P Q : PN} (hP : Makes S f t k v P) (hQ : Makes S f t k v Q) (h1 : f ≤ t) (h2 : t ≤ 65536) (h3 : 1 ≤ k) (h4 : k ≤ 65536) (hc : NoCut S t) : P = Q := by
  have a := makes_more hs hP hQ (Nat.le_refl _) h1 h2 h3 h4 hc
  have b := makes_more hs hQ hP (Nat.le_refl _) h1 h2 h3 h4 hc
  have e1 := hP.f_
  have e2 := hP.t_
  have e3 := hP.k_
  have e4 := hQ.f_
  have e5 := hQ.t_
  have e6 := hQ.k_
  obtain ⟨f1, t1, k1, d1, g1⟩ := P
  obtain ⟨f2, t2, k2, d2, g2⟩ := Q
  simp only at *
  have : d1 = d2 := by omega
  have : g1 = g2 := by omega
  subst e1 e2 e3 e4 e5 e6
  simp_all

set_option maxHeartbeats 2000000 in
set_option maxRecDepth 100000 in
theorem remade_ok (bp N : Nat) (S : Nat → Nat) (P : PN) (l a : Value) (wq2 tq2 : Nat) (w : World) (f t k v : Nat) (hb : Brd w (some ⟨bp, 0, none⟩) N (sidesOf S)) (hs : Bl N S) (hM : Makes S f t k v P) (hd : DPl w P S l a wq2 tq2) (hft : f ≤ t) (htN : t ≤ N) (hk : 1 ≤ k) (hk2 : k ≤ 65536) (hcf : NoCut S f) (hct : NoCut S t) :
    Calls Tryz.prog 35 #[.pointer (some ⟨bp, 0, none⟩), .agg (plC P l a (slc wq2 P.R) (slc tq2 P.R))] w fun e w' => ∃ lq aq wq tq, e = .returned (.tuple #[.agg (plC P (slc lq P.R) (slc aq P.R) (slc wq P.R) (slc tq P.R)), .int .i64 0]) ∧ Pln w' P S lq aq wq tq ∧ Turned [] w w' := by
  have hN := hb.few
  have hOk := hM.ok hft (by omega) hk hk2
  have hfd := hM.fle hOk
  have hdt := hM.dle hs hct
  have hR6 := PN.R_few hOk
  obtain ⟨lo, lc, hl⟩ : ∃ lo lc, l = .slice lo P.R lc := by
    obtain ⟨B, ho⟩ := hd.lv
    obtain ⟨-, ao, cap, hv, -⟩ := ownsRow_any ho
    exact ⟨ao, cap, hv⟩
  obtain ⟨ao, ac, ha⟩ : ∃ ao ac, a = .slice ao P.R ac := by
    obtain ⟨B, ho⟩ := hd.ah
    obtain ⟨-, ao, cap, hv, -⟩ := ownsRow_any ho
    exact ⟨ao, cap, hv⟩
  have hfe := hM.f_
  have hte := hM.t_
  have hke := hM.k_
  have HD := hide hd
  have HB := hide hb
  obtain ⟨dw, hdw⟩ : ∃ dw, dw = deadTo P (live S) P.d := ⟨_, rfl⟩
  have hdw6 : dw ≤ 65536 := by rw [hdw]; unfold deadTo; omega
  have HLv : Hid (∀ w', Turned [] w w' → Calls Tryz.prog 50 #[.pointer (some ⟨bp, 0, none⟩), .int .i64 (P.f : Int), .int .i64 (P.d : Int)] w' fun e w'' => e = .returned (.int .i64 ((P.d : Int) - P.f - dw)) ∧ Turned [] w' w'') := hide (fun w' tt => (live_any (some ⟨bp, 0, none⟩) N S P.f P.d w' (hb.turned tt) hs).mono (by
    rintro e w'' ⟨rfl, t2⟩
    refine ⟨?_, t2⟩
    have e1 : kp N (P.f : Int) = P.f := by unfold kp; omega
    have e2 : kp N (P.d : Int) = P.d := by unfold kp; omega
    rw [e1, e2, cntIn_sub, hdw]
    unfold deadTo
    have h5 := cnt_mono (live S) (show P.f ≤ P.d by omega)
    have h6 := cnt_gap (live S) (show P.f ≤ P.d by omega)
    congr 2
    omega))
  have HMk : Hid (∀ w', Turned [] w w' → Calls Tryz.prog 56 #[.pointer (some ⟨bp, 0, none⟩), .int .i64 (P.f : Int), .int .i64 (P.t : Int), .int .i64 (P.k : Int), .int .i64 (dw : Int)] w' fun e w'' => ∃ lq aq wq tq, e = .returned (.tuple #[.agg (plC P (slc lq P.R) (slc aq P.R) (slc wq P.R) (slc tq P.R)), .int .i64 0]) ∧ Pln w'' P S lq aq wq tq ∧ Turned [] w' w'') := hide (fun w' tt => by
    rw [hfe, hte, hke]
    refine (make_ok bp N S f t k dw w' (hb.turned tt) hs hft htN hk hk2 (by omega) hcf hct).mono ?_
    rintro e w'' ⟨Q, lq, aq, wq, tq, rfl, hQ, hp, t2⟩
    have h1 : Makes S f t k dw P := by rw [hdw]; exact makes_least hs hM hOk
    have h2 : Q = P := makes_uniq hs hQ h1 hft (by omega) hk hk2 hct
    subst h2
    exact ⟨lq, aq, wq, tq, rfl, hp, t2⟩)
  have HAl : Hid (∀ w' lq aq wq tq, Turned [] w w' → Pln w' P S lq aq wq tq → Calls Tryz.prog 57 #[.agg (plC P (slc lq P.R) (slc aq P.R) (slc wq P.R) (slc tq P.R)), .agg (plC P l a (slc wq2 P.R) (slc tq2 P.R))] w' fun e w'' => e = .returned (.bool true) ∧ Turned [] w' w'') := hide (fun w' lq aq wq tq tt hp => alike_any P S lq aq wq tq wq2 tq2 l a w' hp (hd.turned0 tt) hR6)
  have hfd2 : P.f ≤ P.d := by omega
  have hd6 : P.d ≤ 65536 := by omega
  have HPl : Hid (∀ w' w'' lq aq wq tq, Pln w' P S lq aq wq tq → Turned [] w' w'' → Pln w'' P S lq aq wq tq) := hide (fun w' w'' lq aq wq tq h t => h.turned0 t)
  have HPb : Hid (∀ w0 : World, ∀ l a x y : Value, Pb (w0.alloc (.cells (plC P l a x y) 39)) w0.heap.size P l a x y) := hide (fun w0 l a x y => pb_new w0 P l a x y)
  have hf6 : P.t ≤ 65536 := by omega
  have hk6 : P.k ≤ 65536 := by omega
  clear hb hs hM hd hcf hct hfe hte hke hdw hOk hft htN hk hk2 hfd hdt
  subst hl ha
  unfold slc at *
  generalize P.R = R at *
  obtain ⟨pf, pt, pk, pd, pe⟩ := P
  unfold plC at *
  simp only at *
  obtain ⟨w0, hw0⟩ : ∃ w0, w0 = (w.alloc (.cells #[.int .i64 (pf : Int), .int .i64 (pt : Int), .int .i64 (pk : Int), .int .i64 (pd : Int), .int .i64 (pe : Int), .slice lo R lc, .slice ao R ac, .slice (some ⟨wq2, 0, none⟩) R R, .slice (some ⟨tq2, 0, none⟩) R R] 39)).alloc (.cells #[.int .i64 0, .int .i64 0, .int .i64 0, .int .i64 0, .int .i64 0, .slice none 0 0, .slice none 0 0, .slice none 0 0, .slice none 0 0] 39) := ⟨_, rfl⟩
  obtain ⟨bb, hbb⟩ : ∃ bb, bb = w.heap.size := ⟨_, rfl⟩
  have hT0 : Turned [] w w0 := by rw [hw0]; exact ((Turned.refl [] w).alloc _).alloc _
  have hp0 : Pb w0 bb ⟨pf, pt, pk, pd, pe⟩ (.slice lo R lc) (.slice ao R ac) (.slice (some ⟨wq2, 0, none⟩) R R) (.slice (some ⟨tq2, 0, none⟩) R R) := by
    rw [hw0, hbb]
    unfold Pb
    rw [Below.heap_alloc _ _ _ (by simp)]
    exact heap_alloc_new _ _
  have hp1 : Pb w0 (bb + 1) ⟨0, 0, 0, 0, 0⟩ (.slice none 0 0) (.slice none 0 0) (.slice none 0 0) (.slice none 0 0) := by
    rw [hw0, hbb]
    unfold Pb
    have := heap_alloc_new (w.alloc (.cells #[.int .i64 (pf : Int), .int .i64 (pt : Int), .int .i64 (pk : Int), .int .i64 (pd : Int), .int .i64 (pe : Int), .slice lo R lc, .slice ao R ac, .slice (some ⟨wq2, 0, none⟩) R R, .slice (some ⟨tq2, 0, none⟩) R R] 39)) (.cells #[.int .i64 0, .int .i64 0, .int .i64 0, .int .i64 0, .int .i64 0, .slice none 0 0, .slice none 0 0, .slice none 0 0, .slice none 0 0] 39)
    rw [show ∀ o : Obj, (w.alloc o).heap.size = w.heap.size + 1 from fun o => by simp] at this
    exact this
  have HT0 := hide hT0
  have HP0 := hide hp0
  have HQ0 := hide hp1
  have HBw := hide (show w.heap.size ≤ bb by omega)
  clear hT0 hp0 hp1
  go_enter Tryz.func35, Tryz.ntmps35
  go_upto_region 1 with fail
  rw [← hw0, ← hbb]
  clear hw0 hbb
  have HT1 := hide HT0.out.drew
  obtain ⟨a0, -, -, a3, -⟩ := (HP0.out.turned0 ((Turned.refl [] w0).drew)).cs
  simp only at a0 a3
  have hw1 : IntKind.i64.wrap ((pd : Int) - pf) = (pd : Int) - pf := by rw [IntKind.wrap_i64]; omega
  have hw2 : IntKind.i64.wrap ((pd : Int) - pf - ((pd : Int) - pf - dw)) = (dw : Int) := by rw [IntKind.wrap_i64]; omega
  go_region_held3 (fun w' => w'.cell? ⟨bb, 0, none⟩ = some (.int .i64 (pf : Int)) ∧ w'.cell? ⟨bb, 3, none⟩ = some (.int .i64 (pd : Int))) (go_keep)
    (first
      | (go_at_call 50; refine (HLv.out _ HT1.out).mono ?_; rintro e w2 ⟨rfl, t2⟩; have HT2 := hide (HT1.out.trans t2); have HP2 := hide (HP0.out.turned0 ((Turned.refl [] w0).drew.trans t2)); have HQ2 := hide (HQ0.out.turned0 ((Turned.refl [] w0).drew.trans t2)); obtain ⟨b0, -, -, b3, -⟩ := HP2.out.cs; simp only at b0 b3; clear t2))
  clear a0 a3 b0 b3 HLv HT0 HT1 HP0 HQ0
  obtain ⟨a0, a1, a2, a3, a4, a5, a6, a7, a8⟩ := HP2.out.cs
  simp only at a0 a1 a2 a3 a4
  go_wp2_with fail
  first | rw [hw2] | skip
  refine (HMk.out _ HT2.out).mono ?_
  rintro e1 w3 ⟨lq, aq, wq, tq, rfl, hpl, t3⟩
  have HT3 := hide (HT2.out.trans t3)
  have HP3 := hide (HP2.out.turned0 t3)
  have HQ3 := hide (HQ2.out.turned0 t3)
  have HPl3 := hide hpl
  clear hpl t3 HMk HT2 HP2 HQ2 a0 a1 a2 a3 a4 a5 a6 a7 a8 hw1 hw2
  go_upto_region 3 with fail
  have HT4 := hide (HT3.out.alloc (.cells #[.int .i64 (pf : Int), .int .i64 (pt : Int), .int .i64 (pk : Int), .int .i64 (pd : Int), .int .i64 (pe : Int), .slice (some ⟨lq, 0, none⟩) R R, .slice (some ⟨aq, 0, none⟩) R R, .slice (some ⟨wq, 0, none⟩) R R, .slice (some ⟨tq, 0, none⟩) R R] 39))
  have HP4 := hide (HP3.out.turned0 ((Turned.refl [] w3).alloc (.cells #[.int .i64 (pf : Int), .int .i64 (pt : Int), .int .i64 (pk : Int), .int .i64 (pd : Int), .int .i64 (pe : Int), .slice (some ⟨lq, 0, none⟩) R R, .slice (some ⟨aq, 0, none⟩) R R, .slice (some ⟨wq, 0, none⟩) R R, .slice (some ⟨tq, 0, none⟩) R R] 39)))
  have HQ4 := hide (HQ3.out.turned0 ((Turned.refl [] w3).alloc (.cells #[.int .i64 (pf : Int), .int .i64 (pt : Int), .int .i64 (pk : Int), .int .i64 (pd : Int), .int .i64 (pe : Int), .slice (some ⟨lq, 0, none⟩) R R, .slice (some ⟨aq, 0, none⟩) R R, .slice (some ⟨wq, 0, none⟩) R R, .slice (some ⟨tq, 0, none⟩) R R] 39)))
  have HPl4 := hide (HPl.out _ _ lq aq wq tq HPl3.out ((Turned.refl [] w3).alloc (.cells #[.int .i64 (pf : Int), .int .i64 (pt : Int), .int .i64 (pk : Int), .int .i64 (pd : Int), .int .i64 (pe : Int), .slice (some ⟨lq, 0, none⟩) R R, .slice (some ⟨aq, 0, none⟩) R R, .slice (some ⟨wq, 0, none⟩) R R, .slice (some ⟨tq, 0, none⟩) R R] 39)))
  have HM4 : Hid (Pb (w3.alloc (.cells #[.int .i64 (pf : Int), .int .i64 (pt : Int), .int .i64 (pk : Int), .int .i64 (pd : Int), .int .i64 (pe : Int), .slice (some ⟨lq, 0, none⟩) R R, .slice (some ⟨aq, 0, none⟩) R R, .slice (some ⟨wq, 0, none⟩) R R, .slice (some ⟨tq, 0, none⟩) R R] 39)) w3.heap.size ⟨pf, pt, pk, pd, pe⟩ (.slice (some ⟨lq, 0, none⟩) R R) (.slice (some ⟨aq, 0, none⟩) R R) (.slice (some ⟨wq, 0, none⟩) R R) (.slice (some ⟨tq, 0, none⟩) R R)) := hide (heap_alloc_new _ _)
  have HNe := hide (show w3.heap.size ≠ bb + 1 ∧ w3.heap.size ≠ bb from ⟨by have := HQ3.out.lt; omega, by have := HP3.out.lt; omega⟩)
  generalize w3.alloc (.cells #[.int .i64 (pf : Int), .int .i64 (pt : Int), .int .i64 (pk : Int), .int .i64 (pd : Int), .int .i64 (pe : Int), .slice (some ⟨lq, 0, none⟩) R R, .slice (some ⟨aq, 0, none⟩) R R, .slice (some ⟨wq, 0, none⟩) R R, .slice (some ⟨tq, 0, none⟩) R R] 39) = w4 at *
  generalize w3.heap.size = mb at *
  clear HT3 HP3 HQ3 HPl3
  have HA4 := hide (HAl.out w4 lq aq wq tq HT4.out HPl4.out)
  obtain ⟨a0, a1, a2, a3, a4, a5, a6, a7, a8⟩ := HP4.out.cs
  obtain ⟨m0, m1, m2, m3, m4, m5, m6, m7, m8⟩ := HM4.out.cs
  simp only at a0 a1 a2 a3 a4 m0 m1 m2 m3 m4
  go_wp2_with fail
  refine (HA4.out).mono ?_
  rintro e1 w5 ⟨rfl, t5⟩
  have HT5 := hide (HT4.out.trans t5)
  have HQ5 := hide (HQ4.out.turned0 t5)
  have HM5 := hide (HM4.out.turned0 t5)
  have HPl5 := hide (HPl.out _ _ lq aq wq tq HPl4.out t5)
  clear t5 HA4 HAl HT4 HP4 HQ4 HM4 HPl4 a0 a1 a2 a3 a4 a5 a6 a7 a8 m0 m1 m2 m3 m4 m5 m6 m7 m8
  obtain ⟨m0, m1, m2, m3, m4, m5, m6, m7, m8⟩ := HM5.out.cs
  obtain ⟨r0, r1, r2, r3, r4, r5, r6, r7, r8⟩ := HQ5.out.cs
  simp only at m0 m1 m2 m3 m4
  simp only [Int.cast_ofNat_Int] at r0 r1 r2 r3 r4
  have z0 := HQ5.out.fz 0
  have z1 := HQ5.out.fz 1
  have z2 := HQ5.out.fz 2
  have z3 := HQ5.out.fz 3
  have z4 := HQ5.out.fz 4
  have z5 := HQ5.out.fz 5
  have z6 := HQ5.out.fz 6
  have z7 := HQ5.out.fz 7
  have z8 := HQ5.out.fz 8
  have rl := HQ5.out.lt
  have hnr : bb + 1 ≠ mb := fun e => HNe.out.1 e.symm
  go_upto_region 5 with fail
  go_wp2_with fail
  have h9 := nine_set HQ5.out ⟨pf, pt, pk, pd, pe⟩ (.slice (some ⟨lq, 0, none⟩) R R) (.slice (some ⟨aq, 0, none⟩) R R) (.slice (some ⟨wq, 0, none⟩) R R) (.slice (some ⟨tq, 0, none⟩) R R)
  have t9 := nine_turned w5 (bb + 1) ⟨pf, pt, pk, pd, pe⟩ (.slice (some ⟨lq, 0, none⟩) R R) (.slice (some ⟨aq, 0, none⟩) R R) (.slice (some ⟨wq, 0, none⟩) R R) (.slice (some ⟨tq, 0, none⟩) R R)
  have HT9 := hide (nine_new HT5.out (show w.heap.size ≤ bb + 1 by have := HBw.out; omega) ⟨pf, pt, pk, pd, pe⟩ (.slice (some ⟨lq, 0, none⟩) R R) (.slice (some ⟨aq, 0, none⟩) R R) (.slice (some ⟨wq, 0, none⟩) R R) (.slice (some ⟨tq, 0, none⟩) R R))
  have HPl9 : Hid (Pln (nine w5 (bb + 1) ⟨pf, pt, pk, pd, pe⟩ (.slice (some ⟨lq, 0, none⟩) R R) (.slice (some ⟨aq, 0, none⟩) R R) (.slice (some ⟨wq, 0, none⟩) R R) (.slice (some ⟨tq, 0, none⟩) R R)) ⟨pf, pt, pk, pd, pe⟩ S lq aq wq tq) := hide (by
    have hi : ∀ {q n : Nat} {g : Nat → Int}, Ri w5 3 q n g → Ri _ 3 q n g := fun {q n g} hr => hr.turned t9 (by
      obtain ⟨c, hc, _⟩ := hr
      simp
      exact ne_of_type hc HQ5.out (by decide))
    have hp : Rp _ _ _ _ := HPl5.out.tk.turned t9 (by
      obtain ⟨c, hc, _⟩ := HPl5.out.tk
      simp
      exact ne_of_type hc HQ5.out (by decide))
    exact ⟨hi HPl5.out.lv, hi HPl5.out.ah, hi HPl5.out.wt, hp⟩)
  have H9 := hide h9
  unfold nine at H9 HT9 HPl9
  simp only at H9 HT9 HPl9
  clear h9 t9 HQ5 HM5 HPl5 HT5 z0 z1 z2 z3 z4 z5 z6 z7 z8 r0 r1 r2 r3 r4 r5 r6 r7 r8 rl hnr m0 m1 m2 m3 m4 m5 m6 m7 m8
  generalize ((((((((w5.setCell ⟨bb + 1, 0, none⟩ (.int .i64 (pf : Int))).setCell ⟨bb + 1, 1, none⟩ (.int .i64 (pt : Int))).setCell ⟨bb + 1, 2, none⟩ (.int .i64 (pk : Int))).setCell ⟨bb + 1, 3, none⟩ (.int .i64 (pd : Int))).setCell ⟨bb + 1, 4, none⟩ (.int .i64 (pe : Int))).setCell ⟨bb + 1, 5, none⟩ (.slice (some ⟨lq, 0, none⟩) R R)).setCell ⟨bb + 1, 6, none⟩ (.slice (some ⟨aq, 0, none⟩) R R)).setCell ⟨bb + 1, 7, none⟩ (.slice (some ⟨wq, 0, none⟩) R R)).setCell ⟨bb + 1, 8, none⟩ (.slice (some ⟨tq, 0, none⟩) R R) = w6 at *
  obtain ⟨c0, c1, c2, c3, c4, c5, c6, c7, c8⟩ := H9.out.cs
  simp only at c0 c1 c2 c3 c4
  refine bodyPost_ret (v := .tuple #[.agg #[.int .i64 (pf : Int), .int .i64 (pt : Int), .int .i64 (pk : Int), .int .i64 (pd : Int), .int .i64 (pe : Int), .slice (some ⟨lq, 0, none⟩) R R, .slice (some ⟨aq, 0, none⟩) R R, .slice (some ⟨wq, 0, none⟩) R R, .slice (some ⟨tq, 0, none⟩) R R], .int .i64 0]) (by simp [results, Tryz.results35, go_sem, c0, c1, c2, c3, c4, c5, c6, c7, c8]) rfl ⟨lq, aq, wq, tq, rfl, HPl9.out, HT9.out⟩
end Go.Proofs.YtbmlggemheljkaaGreatDoor

/-
  The parts of a new slider: the waits (a clone), the workers.
-/
namespace Go.Proofs.YtbmlggemheljkaaGreatDoor
open Go.RowKit Bt
set_option linter.unusedVariables false
set_option linter.unusedSimpArgs false

theorem own_ri {w : World} {B : Nat} {v : Value} {n : Nat} {g : Nat → Int} (h : w.ownsRow B 3 1 v n ((List.range n).map fun i => Value.int .i64 (g i))) (hv : v ≠ .slice none 0 0) : ∃ q cap, v = .slice (some ⟨q, 0, none⟩) n cap ∧ B ≤ q ∧ q < w.heap.size ∧ Ri w 3 q n g := by
  obtain ⟨_, ⟨h0, _⟩ | ⟨q, cap, cur, rfl, h1, h2, h3, h4, h5, h6⟩⟩ := h
  · exact absurd h0 hv
  · refine ⟨q, cap, rfl, h1, lt_of_heap h2, cur, h2, fun i hi => ?_⟩
    have h7 : ((List.range n).map fun i => Value.int .i64 (g i))[i]? = some (.int .i64 (g i)) := by rw [List.getElem?_map, List.getElem?_range hi]; rfl
    rw [← h6, Nat.mul_one, List.getElem?_take_of_lt hi] at h7
    simpa using h7
set_option maxRecDepth 100000 in
theorem clone_ints (q n c : Nat) (g : Nat → Int) (w : World) (h : Ri w 3 q n g) (hn : n ≤ 65536) :
    Calls Tryz.prog 36 #[.slice (some ⟨q, 0, none⟩) n c] w fun e w' => ∃ z zc, e = .returned (.slice (some ⟨z, 0, none⟩) n zc) ∧ Ri w' 3 z n g ∧ w.heap.size ≤ z ∧ Turned [] w w' := by
  have heq := fun w => Lib.run_eql_slice_nil (P := Tryz.prog) w 23 3 (some ⟨q, 0, none⟩) n c 0 0 Tryz.underlying23
  have hbs : ∀ w : World, (Instr.buildSlice 23 0 #[]).run Tryz.prog w = .ok (.slice (some ⟨w.heap.size, 0, none⟩) 0 0) (w.alloc (.cells #[] 3)) := fun _ => by kernel_rfl
  obtain ⟨i0, hi, hi0⟩ := Option.map_eq_some_iff.1 Tryz.infoInt
  simp only [Prod.mk.injEq] at hi0
  obtain ⟨hz0, hz1, hz2⟩ := hi0
  have HI := hide (And.intro hi (And.intro hz0 (And.intro hz1 hz2)))
  have HR := hide (h.turned0 ((Turned.refl [] w).alloc (.cells #[] 3)))
  have HO : Hid ((w.alloc (.cells #[] 3)).ownsRow w.heap.size 3 1 (.slice (some ⟨w.heap.size, 0, none⟩) 0 0) 0 []) := hide ⟨rfl, .inr ⟨w.heap.size, 0, #[], rfl, Nat.le_refl _, heap_alloc_new _ _, Nat.le_refl _, by unfold maxLen; omega, rfl, rfl⟩⟩
  have HT := hide ((Turned.refl [] w).alloc (.cells #[] 3))
  have HLn : Hid (((List.range n).map fun i => Value.int .i64 (g i)).length = n * 1) := hide (by simp)
  have HNw : Hid (∀ j u, ((List.range n).map fun i => Value.int .i64 (g i))[j]? = some u → (w.alloc (.cells #[] 3)).cell? ((⟨q, 0, none⟩ : Addr).add j) = some u) := hide (fun j u hu => by
    rw [Addr.add_lit, Nat.zero_add]
    have hj : j < n := by
      have := (List.getElem?_eq_some_iff.1 hu).1
      simpa using this
    rw [List.getElem?_map, List.getElem?_range hj] at hu
    simp at hu
    subst hu
    exact HR.out.cell hj)
  clear h hi hz0 hz1 hz2
  go_enter Tryz.func36, Tryz.ntmps36
  go_wp2_with (at_builtin; (refine wpList_append_own _ rfl _ _ 23 rfl w.heap.size 3 i0 _ 1 8 Tryz.underlying23 HI.out.1 HI.out.2.1 HI.out.2.2.1 HI.out.2.2.2 rfl (by decide) _ _ _ rfl HO.out ⟨q, 0, none⟩ n c ((List.range n).map fun i => Value.int .i64 (g i)) rfl HLn.out HNw.out (by intro u hu; simp at hu; obtain ⟨i, _, rfl⟩ := hu; rfl) (by unfold maxLen; omega) (by omega) (by simp) ?_); intro v3 w3 ho hg hnil; have HO3 := hide ho; have HG3 := hide hg; have HN3 := hide hnil; clear ho hg hnil)
  have ho := HO3.out
  simp only [Nat.zero_add, List.nil_append] at ho
  obtain ⟨z, zc, hv, h1, h2, h3⟩ := own_ri ho (fun e => by have := (HN3.out.1 e).1; cases this)
  subst hv
  go_ret
  refine ⟨z, zc, rfl, h3, h1, HT.out.grown HG3.out (fun k hk => .inr ?_)⟩
  have h9 : (Value.slice (some ⟨w.heap.size, 0, none⟩) 0 0).ownBlock = some k := hk
  have : w.heap.size = k := by simpa [Value.ownBlock] using h9
  omega

theorem Tryz.infoWk : (Tryz.prog.info? 94).map (fun i => (i.zero, i.size, i.bytes)) = some (some (.pointer none), 1, 8) := by kernel_rfl
/-- New workers: the row q; the worker k lies in block q + 1 + k. -/
def wks (q n : Nat) : List Nat := (List.range n).map (fun k => q + 1 + k)
theorem wks_len (q n : Nat) : (wks q n).length = n := by simp [wks]
theorem wks_get {q n k : Nat} (h : k < n) : (wks q n)[k]? = some (q + 1 + k) := by simp [wks, h]
def WRow (w : World) (q n j : Nat) : Prop := ∃ c : Array Value, w.heap[q]? = some (.cells c 94) ∧ c.size = n ∧ ∀ k, k < n → c[k]? = some (if k < j then Value.pointer (some ⟨q + 1 + k, 0, none⟩) else .pointer none)
def w0S : SlW := ⟨0, 0, 0, 0, 0, 0⟩
set_option maxHeartbeats 1000000 in
set_option maxRecDepth 100000 in
theorem snewWorkers (w : World) (sb n : Nat) (h0 : 0 < n) (hn : n ≤ 64) (hsb : sb < w.heap.size) :
    Calls Tryz.prog 37 #[.pointer (some ⟨sb, 0, none⟩), .int .i64 (n : Int)] w fun e w' => e = .returned (.slice (some ⟨w.heap.size, 0, none⟩) n n) ∧ w'.heap[w.heap.size]? = some (Obj.cells (((wks w.heap.size n).map fun b => Value.pointer (some ⟨b, 0, none⟩)).toArray) 94) ∧ (∀ k, k < n → w'.heap[w.heap.size + 1 + k]? = some (.cells (wkC (w.heap.size + 1 + k) sb w0S) 93)) ∧ Turned [] w w' ∧ w'.heap.size = w.heap.size + 1 + n := by
  have hmk := run_make_row' (P := Tryz.prog) 77 94 (.pointer none) 8 Tryz.underlying77 Tryz.infoWk rfl .i64 .i64 n (by omega) (by omega)
  have HT := hide (show Turned [] w (w.alloc (.cells (madeCells #[Value.pointer none] n) 94)) from (Turned.refl _ _).alloc _)
  have HG : Hid (WRow (w.alloc (.cells (madeCells #[Value.pointer none] n) 94)) w.heap.size n 0) := hide ⟨_, heap_alloc_new _ _, by simp [madeCells], fun k hk => by rw [if_neg (by omega)]; simp [madeCells, hk, Nat.mod_one]⟩
  have HZ := hide (show (w.alloc (.cells (madeCells #[Value.pointer none] n) 94)).heap.size = w.heap.size + 1 + 0 from by simp)
  go_enter Tryz.func37, Tryz.ntmps37
  go_wp2_with fail
  generalize w.alloc (.cells (madeCells #[Value.pointer none] n) 94) = w1 at *
  clear hmk
  obtain ⟨q, hq⟩ : ∃ q, q = w.heap.size := ⟨_, rfl⟩
  rw [← hq] at HG HZ ⊢
  have HQ := hide hq
  clear hq
  go_loopg [6, 7, 11] n (fun gg s6 s7 s11 wr => ∃ (j : Nat), gg = n - j ∧ j ≤ n ∧ s11 = .int .i64 j ∧ Hid (WRow wr q n j) ∧ Hid (∀ k, k < j → wr.heap[q + 1 + k]? = some (.cells (wkC (q + 1 + k) sb w0S) 93)) ∧ Hid (Turned [] w wr) ∧ Hid (wr.heap.size = q + 1 + j))
  case atStart => exact ⟨0, rfl, Nat.zero_le _, rfl, HG, hide (fun k hk => absurd hk (Nat.not_lt_zero k)), HT, HZ⟩
  case round =>
    clear HG HT HZ
    obtain ⟨j, rfl, hj, rfl, HG2, HE2, HT2, HZ2⟩ := hrel
    obtain ⟨w2, hw2⟩ : ∃ w2, w2 = wr := ⟨_, rfl⟩
    subst hw2
    by_cases hlt : j < n
    · have hji : (j : Int) < (n : Int) := by omega
      obtain ⟨b, hb⟩ : ∃ b, b = w2.heap.size := ⟨_, rfl⟩
      have hbq : b = q + 1 + j := by rw [hb]; exact HZ2.out
      obtain ⟨w3, hw3⟩ : ∃ w3, w3 = w2.alloc (.cells #[.nilFunc, .pointer (some ⟨sb, 0, none⟩), .int .i64 0, .int .i64 0, .int .i64 0, .int .i64 0, .int .i64 0] 93) := ⟨_, rfl⟩
      have hw3b : w3.heap[b]? = some (.cells #[.nilFunc, .pointer (some ⟨sb, 0, none⟩), .int .i64 0, .int .i64 0, .int .i64 0, .int .i64 0, .int .i64 0] 93) := by rw [hw3, hb]; exact heap_alloc_new _ _
      have b0 : w3.cell? ⟨b, 0, none⟩ = some .nilFunc := by rw [cell_of_heap hw3b]; rfl
      have bf : w3.frozen? ⟨b, 0, none⟩ = false := by simp [World.frozen?, hw3b]
      have bl := lt_of_heap hw3b
      have t3 : Turned [] w2 w3 := by rw [hw3]; exact (Turned.refl [] w2).alloc _
      have HR3 : Hid (WRow w3 q n j) := hide (by
        obtain ⟨c, h1, h2, h3⟩ := HG2.out
        exact ⟨c, by rw [t3.block q (lt_of_heap h1) (by simp)]; exact h1, h2, h3⟩)
      have hqb : q ≠ b := by omega
      have HR4 : Hid (∀ u, WRow (w3.setCell ⟨b, 0, none⟩ u) q n j) := hide (fun u => by
        obtain ⟨c, h1, h2, h3⟩ := HR3.out
        exact ⟨c, by rw [Below.heap_setCell _ _ _ _ hqb]; exact h1, h2, h3⟩)
      have qc : ∀ u, (w3.setCell ⟨b, 0, none⟩ u).cell? ⟨q, j, none⟩ = some (.pointer none) := fun u => by
        obtain ⟨c, h1, h2, h3⟩ := HR4.out u
        rw [cell_of_heap h1, h3 j hlt, if_neg (by omega)]
      have qf : ∀ u, (w3.setCell ⟨b, 0, none⟩ u).frozen? ⟨q, j, none⟩ = false := fun u => by
        obtain ⟨c, h1, h2, h3⟩ := HR4.out u
        simp [World.frozen?, h1]
      have HSz := hide (show w3.heap.size = q + 1 + (j + 1) by rw [hw3]; simp; have := HZ2.out; omega)
      have HE3 : Hid (∀ k, k < j → w3.heap[q + 1 + k]? = some (.cells (wkC (q + 1 + k) sb w0S) 93)) := hide (fun k hk => by
        have := HE2.out k hk
        rw [t3.block _ (lt_of_heap this) (by simp)]; exact this)
      have HT3 := hide (HT2.out.trans t3)
      have HBq := hide hbq
      have HB3 := hide hw3b
      clear hw3b t3 HG2 HE2 HT2 HZ2 hbq
      go_upto_region 6 with fail
      rw [← hw3, ← hb]
      clear hw3 hb
      have HA : Hid (WRow ((w3.setCell ⟨b, 0, none⟩ (.func (.func 58) #[.pointer (some ⟨b, 0, none⟩)] #[])).setCell ⟨q, j, none⟩ (.pointer (some ⟨b, 0, none⟩))) q n (j + 1)) := hide (by
        obtain ⟨c, h1, h2, h3⟩ := HR4.out (.func (.func 58) #[.pointer (some ⟨b, 0, none⟩)] #[])
        refine ⟨_, heap_setCell_at _ _ _ _ _ _ h1 _, by simpa using h2, fun k hk => ?_⟩
        by_cases hkj : k = j
        · subst hkj
          rw [if_pos (by omega), ← HBq.out]
          simp [h2, hk]
        · rw [Array.getElem?_setIfInBounds_ne (fun e => hkj e.symm), h3 k hk]
          by_cases h5 : k < j
          · rw [if_pos h5, if_pos (by omega)]
          · rw [if_neg h5, if_neg (by omega)])
      have HB : Hid (∀ k, k < j + 1 → ((w3.setCell ⟨b, 0, none⟩ (.func (.func 58) #[.pointer (some ⟨b, 0, none⟩)] #[])).setCell ⟨q, j, none⟩ (.pointer (some ⟨b, 0, none⟩))).heap[q + 1 + k]? = some (.cells (wkC (q + 1 + k) sb w0S) 93)) := hide (fun k hk => by
        rw [Below.heap_setCell _ _ _ _ (by simp; omega)]
        by_cases hkj : k = j
        · subst hkj
          rw [← HBq.out, heap_setCell_at _ _ _ _ _ _ HB3.out]
          rfl
        · have hbk : q + 1 + k ≠ b := by have := HBq.out; omega
          rw [Below.heap_setCell _ _ _ _ (by simpa using hbk)]
          exact HE3.out k (by omega))
      have HU := hide ((HT3.out.setCell (p := ⟨b, 0, none⟩) (.inr (by have h1 := HBq.out; have h2 := HQ.out; dsimp only; omega)) (.func (.func 58) #[.pointer (some ⟨b, 0, none⟩)] #[])).setCell (p := ⟨q, j, none⟩) (.inr (by have h2 := HQ.out; dsimp only; omega)) (.pointer (some ⟨b, 0, none⟩)))
      have HW : Hid (((w3.setCell ⟨b, 0, none⟩ (.func (.func 58) #[.pointer (some ⟨b, 0, none⟩)] #[])).setCell ⟨q, j, none⟩ (.pointer (some ⟨b, 0, none⟩))).heap.size = q + 1 + (j + 1)) := hide (by simp; exact HSz.out)
      go_wp2_with fail
      go_roundg (n - (j + 1))
      case measure => omega
      case rel => exact ⟨j + 1, rfl, hlt, by go_num, HA, HB, HU, HW⟩
    · have hji : ¬ (j : Int) < (n : Int) := by omega
      have hjn : j = n := by omega
      subst hjn
      go_wp2_with fail
      go_ret
      obtain rfl := HQ.out
      refine ⟨rfl, ?_, HE2.out, HT2.out, HZ2.out⟩
      obtain ⟨c, h1, h2, h3⟩ := HG2.out
      rw [h1]
      congr 2
      apply Array.ext_getElem?
      intro k
      by_cases hk : k < j
      · rw [h3 k hk, if_pos hk]
        simp [wks, hk]
      · rw [Array.getElem?_eq_none (by omega), Array.getElem?_eq_none (by simp [wks]; omega)]
end Go.Proofs.YtbmlggemheljkaaGreatDoor

/-
  Texts of the proof, several in one: MarkMk.
-/
import Derived.Test.YtgbclfhgpkmcnaaGreatDoorPack38
import Derived.Test.YtgbclfhgpkmcnaaGreatDoorPack35
import Derived.Test.YtgbclfhgpkmcnaaGreatDoorPack20
/-
  ballastlaw11.made: a marker of some sizes that may be, for a heap and bits.
-/
namespace Go.Proofs.YtgbclfhgpkmcnaaGreatDoor
open Go.ChangeShapes Go.WideShapes Go.ChangeAt Go.RowKit
set_option linter.unusedVariables false
set_option linter.unusedSimpArgs false

set_option maxHeartbeats 4000000 in
set_option maxRecDepth 100000 in
theorem lmade11 (p q pb qb : Nat) (hw : List Int) (x y z : Int) (w : World) (hs : Int) (hM : Mem w p q hw hs) (hl : 1 ≤ hw.length ∧ hw.length ≤ 65536) (hB : Bt.Bts w pb qb hw.length (Bt.sidesOf fun _ => 0)) (hxyz : In64 x ∧ In64 y ∧ In64 z) (h0 : 0 < w.heap.size) (hn0 : 0 ∉ [p, q, qb]) (hT : Bt.Tab w) :
    Calls Tryz.prog 12 #[.pointer (some ⟨p, 0, none⟩), .pointer (some ⟨pb, 0, none⟩), .agg #[.int .i64 x, .int .i64 y, .int .i64 z]] w fun e w' => ∃ (P : MP) (L M len cp a gw cw pc qc : Nat) (co : Option Addr) (ds ws : List Nat) (w6 : World), e = .returned (.tuple #[.pointer (some ⟨M, 0, none⟩), .int .i64 P.n]) ∧ P.hw = hw ∧ P.cl = four ∧ (1 ≤ P.n ∧ P.n ≤ 4) ∧ (1 ≤ P.cap ∧ P.cap ≤ 6) ∧ P.over ≤ 5 ∧ L = 1 + P.n * P.need ∧ Turned [] w w6 ∧ w.heap.size ≤ pc ∧ w.heap.size ≤ qc ∧ w6.heap.size ≤ M ∧ Mk P ⟨M, p, q, len, cp, co, pb, qb, a, gw, P.n, cw, pc, qc, ((0 : Nat) : Int)⟩ w6 w' ds ws (MS.fresh (List.replicate L 0) (fun _ => 0) hs 0) (fun _ => []) := by
  obtain ⟨hx, hy, hz⟩ := hxyz
  obtain ⟨w4, hw4⟩ : ∃ w4, w4 = w.alloc (.cells #[.int .i64 x, .int .i64 y, .int .i64 z] 24) := ⟨_, rfl⟩
  obtain ⟨bs, hbs⟩ : ∃ bs, bs = w.heap.size := ⟨_, rfl⟩
  have t4 : Turned [] w w4 := by rw [hw4]; exact (Turned.refl [] w).alloc _
  have HS4 : Hid (w4.heap[bs]? = some (.cells #[.int .i64 x, .int .i64 y, .int .i64 z] 24)) := hide (by rw [hw4, hbs]; exact heap_alloc_new _ _)
  have M4 := hide (hM.turned t4 (by simp) (by simp))
  have B4 := hide (hB.turned0 t4)
  have HT4 := hide t4
  have HLw := hide (show w.heap.size < w4.heap.size by rw [hw4]; simp)
  have H0 := hide (And.intro h0 hn0)
  have HL := hide hl
  have HX := hide (And.intro hx (And.intro hy hz))
  have HMp := hide (And.intro hM.ltp (And.intro hM.ltq (And.intro hB.ltp hB.ltq)))
  have s0 : w4.cell? ⟨bs, 0, none⟩ = some (.int .i64 x) := by rw [cell_of_heap HS4.out]; rfl
  have s1 : w4.cell? ⟨bs, 1, none⟩ = some (.int .i64 y) := by rw [cell_of_heap HS4.out]; rfl
  have s2 : w4.cell? ⟨bs, 2, none⟩ = some (.int .i64 z) := by rw [cell_of_heap HS4.out]; rfl
  clear hM hB t4 h0 hn0 hl hx hy hz hT
  have HP1 := hide (fun w => pick11 x 4 w HX.out.1 (by omega))
  have HP2 := hide (fun w => pick11 y 6 w HX.out.2.1 (by omega))
  have HP3 := hide (fun w => pick11 z 6 w HX.out.2.2 (by omega))
  rw [show ((4 : Nat) : Int) = 4 from rfl] at HP1
  rw [show ((6 : Nat) : Int) = 6 from rfl] at HP2 HP3
  go_enter Tryz.func12, Tryz.ntmps12
  go_wp2_with fail
  rw [← hw4, ← hbs]
  clear hw4 hbs
  refine (HP1.out w4).mono ?_
  rintro e w5 ⟨⟨r1, rfl, hr1⟩, hw5⟩
  rw [hw5]
  clear hw5 w5 HP1
  obtain ⟨n, hn⟩ : ∃ n : Nat, n = 1 + r1 := ⟨_, rfl⟩
  have hn1 : (1 : Int) + (r1 : Int) = (n : Int) := by omega
  have hn14 : 1 ≤ n ∧ n ≤ 4 := by omega
  clear hn hr1
  go_wp2_with fail
  refine (HP2.out w4).mono ?_
  rintro e w5 ⟨⟨r2, rfl, hr2⟩, hw5⟩
  rw [hw5]
  clear hw5 w5 HP2 hn1
  obtain ⟨kc, hkc⟩ : ∃ kc : Nat, kc = 1 + r2 := ⟨_, rfl⟩
  have hk1 : (1 : Int) + (r2 : Int) = (kc : Int) := by omega
  have hk16 : 1 ≤ kc ∧ kc ≤ 6 := by omega
  clear hkc hr2
  go_wp2_with fail
  refine (HP3.out w4).mono ?_
  rintro e w5 ⟨⟨ov, rfl, hov⟩, hw5⟩
  rw [hw5]
  clear hw5 w5 HP3 hk1 s0 s1 s2
  have HF := hide (four_any w4)
  go_wp2_with fail
  refine (HF.out).mono ?_
  rintro e w5 ⟨g, rfl, hc5, t5, hg5⟩
  have C5 := hide hc5
  have M5 := hide (M4.out.turned t5 (by simp) (by simp))
  have B5 := hide (B4.out.turned0 t5)
  have HT5 := hide (HT4.out.trans t5)
  have HS5 := hide t5.size
  clear hc5 t5 hg5 HF M4 B4 HT4
  have HNd := hide (mneed_ok n kc ov (by omega) (by omega) (by omega) w5)
  obtain ⟨nd, hnd⟩ : ∃ nd, nd = 1 + n * (4 + kc + ov) := ⟨_, rfl⟩
  have hnd2 : 1 ≤ nd ∧ nd ≤ 65 := by
    have h1 : n * (4 + kc + ov) ≤ 4 * 15 := Nat.mul_le_mul hn14.2 (by omega)
    omega
  rw [← hnd] at HNd
  have HND := hide hnd
  clear hnd
  go_wp2_with fail
  refine (HNd.out).mono ?_
  rintro e w6 ⟨rfl, hw6⟩
  rw [hw6]
  clear hw6 w6 HNd
  have HCn := hide (new_any (nd : Int) w5)
  rw [show (min (max (nd : Int) 0) 65536).toNat = nd by omega] at HCn
  go_wp2_with fail
  refine (HCn.out).mono ?_
  rintro e w6 ⟨rfl, hM6, t6, hz6⟩
  obtain ⟨qc, hqc⟩ : ∃ qc, qc = w5.heap.size := ⟨_, rfl⟩
  obtain ⟨pc, hpc⟩ : ∃ pc, pc = w5.heap.size + 1 := ⟨_, rfl⟩
  rw [← hpc, ← hqc] at hM6
  rw [← hpc]
  have HPQ := hide (And.intro hqc hpc)
  have MC6 := hide hM6
  have M6 := hide (M5.out.turned t6 (by simp) (by simp))
  have B6 := hide (B5.out.turned0 t6)
  have C6 := hide (C5.out.turned t6 (by simp))
  have HT6 := hide (HT5.out.trans t6)
  clear hM6 t6 hz6 hqc hpc HCn M5 B5 C5 HT5
  obtain ⟨P, hP⟩ : ∃ P : MP, P = ⟨hw, four, n, kc, ov⟩ := ⟨_, rfl⟩
  have HNew := hide (mnew_ok P w6 p q pb qb pc qc g 0 4 4 (List.replicate nd 0) (fun _ => 0) hs 0 (by rw [hP]; exact hn14) (by rw [hP]; exact ⟨hk16.1, by show kc ≤ 64; omega⟩) (by rw [hP]; show ov ≤ 4096; omega) (by rw [List.length_replicate, HND.out, hP]) (by rw [List.length_replicate]; omega) (by rw [hP]; exact M6.out) (by rw [hP]; exact HL.out.2) (by rw [hP]; exact C6.out) (by omega) (by rw [hP]; exact B6.out) (Bt.Bl.none _) MC6.out (by have := HPQ.out; have := HMp.out; have := HLw.out; have := HS5.out; omega) (by have := M6.out.ltp; omega) (by have := HPQ.out; have := H0.out; have := HLw.out; have := HS5.out; simp at *; omega))
  rw [show ((P.n : Nat) : Int) = (n : Int) by rw [hP], show ((P.cap : Nat) : Int) = (kc : Int) by rw [hP], show ((P.over : Nat) : Int) = (ov : Int) by rw [hP], List.length_replicate] at HNew
  have HPe := hide hP
  clear hP
  go_wp2_with fail
  refine (HNew.out).mono ?_
  rintro e w7 ⟨M, len, cp, a, gw, cw, co, ds, ws, rfl, hMz, hk⟩
  have HK := hide hk
  have HMz := hide hMz
  clear hk hMz HNew
  go_wp2_with fail
  go_ret2
  refine ⟨P, nd, M, len, cp, a, gw, cw, pc, qc, co, ds, ws, w6, by rw [show P.n = n by rw [HPe.out]]; rfl, by rw [HPe.out], by rw [HPe.out], by rw [HPe.out]; exact hn14, by rw [HPe.out]; exact hk16, by rw [HPe.out]; show ov ≤ 5; omega, by rw [HND.out, HPe.out]; rfl, HT6.out, by have := HPQ.out; have := HLw.out; have := HS5.out; omega, by have := HPQ.out; have := HLw.out; have := HS5.out; omega, HMz.out, HK.out⟩
end Go.Proofs.YtgbclfhgpkmcnaaGreatDoor

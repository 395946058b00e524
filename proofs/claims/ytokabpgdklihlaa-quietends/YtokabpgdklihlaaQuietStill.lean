/-
  The crew of the law QuietEnds: 'quiet' tells true where nobody has anything.
-/
import Derived.Test.YtokabpgdklihlaaQuietItem
import Derived.Deep.LoopGhost
namespace Go.Proofs.Ytokabpgdklihlaa
open Go.RowKit

section
variable (w : World) (C gw gd a p q : Nat) (ws ds : List Nat) (Q : QC) (l : List Int) (s dn : Int)

set_option maxHeartbeats 4000000 in
set_option maxRecDepth 100000 in
theorem cquiet_any (hl : ∀ i, i < ds.length → itemsOf (cOf Q i) l = []) (hf : ∀ i, i < ds.length → (-1000000 ≤ rd (cOf Q i) l 0 ∧ rd (cOf Q i) l 0 ≤ 1000000) ∧ -1000000 ≤ rd (cOf Q i) l 1 ∧ rd (cOf Q i) l 1 ≤ 1000000) (hw : ∀ (i b : Nat), ws[i]? = some b → ∃ x B, Wk w b a ds x B ∧ x.hands = []) (hC : Cw w C gw gd a ws ds dn) (hs : Sh w a p q ds Q l s) :
    Calls Try.prog 12 #[.pointer (some ⟨C, 0, none⟩)] w fun e w' => e = .returned (.bool true) ∧ Turned [] w w' := by
  have hlen := hC.len
  have HL := hide (And.intro hl (And.intro hf hw))
  have HC := hide hC
  have HS := hide hs
  obtain ⟨n, hn⟩ : ∃ n, ws.length = n := ⟨_, rfl⟩
  have hn4 : n ≤ 4 := by omega
  have HN : Hid (ws.length = n ∧ ds.length = n) := ⟨hn, by omega⟩
  clear hl hf hw hC hs hlen hn
  go_enter Try.func12, Try.ntmps12
  go_wp2_with fail
  go_loopg [3] 6 (fun gk s3 wr => ∃ i : Nat, s3 = .int .i64 (i : Int) ∧ i ≤ n ∧ n - i ≤ gk ∧ Aside (Turned [] w wr))
  case atStart => exact ⟨0, rfl, by omega, by omega, Turned.refl _ _⟩
  case round =>
    obtain ⟨i, rfl, hi, hgk, htu⟩ := hrel
    have hC1 := HC.out.turned htu.out (by simp) (by simp) (by simp)
    obtain ⟨cw, cd, hh⟩ := hC1.head
    have c0 : wr.cell? ⟨C, 0, none⟩ = some (.slice (some ⟨gw, 0, none⟩) n cw) := by rw [cell_of_heap hh, HN.out.1]; rfl
    have c1 : wr.cell? ⟨C, 1, none⟩ = some (.slice (some ⟨gd, 0, none⟩) n cd) := by rw [cell_of_heap hh, HN.out.2]; rfl
    clear hh
    by_cases hlt : i < n
    · have e1 : (i : Int) < (n : Int) := by omega
      obtain ⟨b, hb⟩ : ∃ b, ws[i]? = some b := ⟨ws[i]'(by have := HN.out; omega), by simp⟩
      obtain ⟨d, hd⟩ : ∃ d, ds[i]? = some d := ⟨ds[i]'(by have := HN.out; omega), by simp⟩
      have kw := hC1.w_ i b hb
      have kd := hC1.d_ i d hd
      obtain ⟨hv0, f0⟩ : ∃ hv, (∃ ao cap, hv = .slice ao 0 cap) ∧ wr.cell? ⟨b, 0, none⟩ = some hv := by
        obtain ⟨x, B, hx, hx0⟩ := HL.out.2.2 i b hb
        obtain ⟨hv, g, po, pf, _, r1, r2, _⟩ := hx.turned htu.out (by simp) (by simp) (by simp)
        rw [hx0] at r2
        refine ⟨hv, ?_, by rw [r1.f]; rfl⟩
        rcases r2 with ⟨h0, _, _⟩ | ⟨gb, off, cap, cc, _, hvv, _⟩
        · exact ⟨_, _, h0⟩
        · exact ⟨_, _, hvv⟩
      obtain ⟨⟨ao, cap, rfl⟩, f0⟩ := f0
      have hff := HL.out.2.1 i (by have := HN.out; omega)
      have HI := hide (items_any wr d p q (cOf Q i) l s (by omega) (by omega) ((HS.out.turned htu.out (by simp) (by simp) (by simp) (by simp)).dq i d hd))
      rw [HL.out.1 i (by have := HN.out; omega)] at HI
      clear hC1 hb hd hff
      go_wp2_with fail
      refine HI.out.mono ?_
      rintro e w2 ⟨v, rfl, ⟨m, ho⟩, t2⟩
      obtain ⟨hm, ao2, cap2, rfl, -⟩ := ownsRow_any ho
      simp at hm
      subst hm
      have HT2 := hide (htu.out.trans t2)
      clear HI ho t2 c0 c1 kw kd f0
      go_wp2_with fail
      go_roundg (n - (i + 1))
      case measure => omega
      case rel => exact ⟨i + 1, by go_num, by omega, Nat.le_refl _, HT2.out⟩
    · have e1 : ¬ ((i : Int) < (n : Int)) := by omega
      go_wp2_with fail
      go_ret
      exact ⟨rfl, htu.out⟩
end
end Go.Proofs.Ytokabpgdklihlaa

/-
  fill and Retire of package arena: what a buffer has left becomes a filler.
-/
import Derived.Test.YtelljfckffmjmaaArenaSmall
namespace Go.Proofs.Ytelljfckffmjmaa
open Go.RowKit

theorem Turned.drewN {S : List Nat} {a w : World} (h : Turned S a w) (m : Nat) : Turned S a (w.drewN m) := ⟨h.os, h.tape, h.output, h.size, h.block⟩

/-- On the way: the arena and the buffers, what was turned. -/
structure Ab (w0 w : World) (a v p q B : Nat) (T : TypeId) (A : AC) (l bl : List Int) (s : Int) : Prop where
  ar : Arn w a v p q A l s
  bf : Bf w B T bl
  bt : BT T
  tu : Turned [p, q, B] w0 w

section
variable {w0 w w' : World} {a v p q B b o : Nat} {T : TypeId} {A : AC} {l bl : List Int} {s : Int} {c : Array Value}
theorem Ab.nB (h : Ab w0 w a v p q B T A l bl s) : B ≠ a ∧ B ≠ v ∧ B ≠ p ∧ B ≠ q :=
  ⟨ne_of_type h.bf h.ar.head h.bt.1, ne_of_type h.bf h.ar.var h.bt.2.2.1, ne_of_type h.bf h.ar.mem.head h.bt.2.2.2.2, ne_of_type h.bf h.ar.mem.row h.bt.2.2.2.1⟩
theorem Ab.acc (h : Ab w0 w a v p q B T A l bl s) {l' : List Int} {s' : Int} (m : Mem w' p q l' s') (hl : l'.length = l.length) (t : Turned [p, q] w w') : Ab w0 w' a v p q B T A l' bl s' :=
  ⟨h.ar.acc m hl t, h.bf.turned t (by simp; exact ⟨h.nB.2.2.1, h.nB.2.2.2⟩), h.bt, h.tu.trans (t.mono (by intro k hk; simp at hk; rcases hk with rfl | rfl <;> simp))⟩
theorem Ab.put (h : Ab w0 w a v p q B T A l bl s) (i : Nat) (x : Int) : Ab w0 (w.setCell ⟨B, i, none⟩ (.int .i64 x)) a v p q B T A l (bl.set i x) s := by
  have t : Turned [B] w (w.setCell ⟨B, i, none⟩ (.int .i64 x)) := (Turned.refl _ _).setCell (by simp) _
  exact ⟨h.ar.turned t (by simp; exact Ne.symm h.nB.1) (by simp; exact Ne.symm h.nB.2.1) (by simp; exact Ne.symm h.nB.2.2.1) (by simp; exact Ne.symm h.nB.2.2.2), h.bf.set i x, h.bt, h.tu.setCell (by simp) _⟩
theorem Ab.drewN (h : Ab w0 w a v p q B T A l bl s) (m : Nat) : Ab w0 (w.drewN m) a v p q B T A l bl s := ⟨h.ar.drewN m, h.bf, h.bt, ⟨h.tu.os, h.tu.tape, h.tu.output, h.tu.size, h.tu.block⟩⟩
theorem Ab.drew (h : Ab w0 w a v p q B T A l bl s) : Ab w0 w.drew a v p q B T A l bl s := ⟨h.ar.drew, h.bf, h.bt, h.tu.drew⟩
end

section
variable (w : World) (a v p q B b o : Nat) (T : TypeId) (A : AC) (l bl : List Int) (s : Int)

set_option maxRecDepth 4000 in
theorem fill_any (f t : Int) (hf : 0 ≤ f ∧ f < t ∧ t ≤ l.length) (h0 : bl[o]? = some f) (h1 : bl[o + 1]? = some t) (h : Ab w w a v p q B T A l bl s) :
    Calls Try.prog 37 #[.pointer (some ⟨a, 0, none⟩), .pointer (some ⟨B, o, none⟩)] w fun e w' => e = .returned (.tuple #[]) ∧ Ab w w' a v p q B T A (l.set f.toNat (headOf 0 (t - f - 1))) ((bl.set o 0).set (o + 1) 0) (wrap64 (s + 1)) := by
  have hm := h.ar.most
  have c0 := h.ar.c0
  have f0 := h.bf.at h0
  have f1 := h.bf.at h1
  have HW := hide (fun w' (h' : Ab w w' a v p q B T A l bl s) => words_buf w' B o f t (by omega) (h'.bf.at h0) (h'.bf.at h1))
  have HH := hide (fun w' => header_any 0 (t - f - 1) w')
  obtain ⟨n, rfl⟩ : ∃ n : Nat, f = n := ⟨f.toNat, by omega⟩
  have hn : n < l.length := by omega
  have HS := hide (fun w' (h' : Ab w w' a v p q B T A l bl s) => store_in p q l s w' n (l.getD n 0) (headOf 0 (t - n - 1)) (by simp [List.getD, hn]) h'.ar.mem)
  have HN := hide (show (l.set n (headOf 0 (t - n - 1))).length = l.length by simp)
  rw [show ((n : Int)).toNat = n by omega]
  generalize l.set n (headOf 0 (t - n - 1)) = l2 at *
  generalize headOf 0 (t - n - 1) = hd at *
  have H0 := hide h
  have HB0 := hide h0
  have HB1 := hide h1
  have ht : (n : Int) < t ∧ t ≤ 65536 := by omega
  clear h h0 h1 hf hm hn
  go_enter Try.func37, Try.ntmps37
  go_wp2_with fail
  have e1 : IntKind.u64.wrap (t - n - 1) = t - n - 1 := by rw [IntKind.wrap_u64]; omega
  have e2 : IntKind.i64.wrap (t - n - 1) = t - n - 1 := by rw [IntKind.wrap_i64]; omega
  go_region_held3 (fun w' => w'.cell? ⟨a, 0, none⟩ = some (.pointer (some ⟨p, 0, none⟩)) ∧ w'.cell? ⟨B, o, none⟩ = some (.int .i64 n)) (go_keep)
    (first
      | (go_at_call 36; refine (HW.out _ H0.out.drew).mono ?_; rintro e w1 ⟨rfl, m, hw1⟩; have H1 := hide (show Ab w w1 a v p q B T A l bl s by rw [hw1]; exact H0.out.drew.drewN m); have g2 := H1.out.ar.c0; have g3 := H1.out.bf.at HB0.out; clear hw1 HW)
      | (go_at_call 54; refine (HH.out _).mono ?_; rintro e w2 ⟨rfl, hw2⟩; have H2 := hide (show Ab w w2 a v p q B T A l bl s by rw [hw2]; first | exact H1.out | exact H1.out.drew | exact H1.out.drewN _); have k2 := H2.out.ar.c0; have k3 := H2.out.bf.at HB0.out; clear hw2 HH)
      | (go_at_call 53; refine (HS.out _ (by first | exact H2.out | exact H2.out.drew)).mono ?_; rintro e w3 ⟨rfl, m3, t3⟩; have H3 := hide (H2.out.acc m3 HN.out t3); have j2 := H3.out.ar.c0; have j3 := H3.out.bf.at HB0.out; clear m3 t3 HS))
  have j4 := H3.out.bf.at HB1.out
  have z0 := H3.out.bf.fz o
  have z1 := H3.out.bf.fz (o + 1)
  have HF := hide ((H3.out.put o 0).put (o + 1) 0)
  clear c0 f0 f1 H0 H1 H2 H3 g2 g3 k2 k3 e1 e2 HN j2
  go_wp2_with fail
  first | refine bodyPost_end (results_none rfl _ _ _) rfl ?_ | refine bodyPost_ret (results_none rfl _ _ _) rfl ?_
  exact ⟨rfl, HF.out⟩

theorem retire_any (f t : Int) (hf : 0 ≤ f ∧ f < t ∧ t ≤ l.length) (h0 : bl[o]? = some f) (h1 : bl[o + 1]? = some t) (h : Ab w w a v p q B T A l bl s) :
    Calls Try.prog 16 #[.pointer (some ⟨a, 0, none⟩), .pointer (some ⟨B, o, none⟩)] w fun e w' => e = .returned (.bool true) ∧ Ab w w' a v p q B T A (l.set f.toNat (headOf 0 (t - f - 1))) ((bl.set o 0).set (o + 1) 0) (wrap64 (s + 1)) := by
  have HN := hide (anone_any w a v p q A l s h.ar)
  have hm := h.ar.most
  have HW := hide (words_buf w B o f t (by omega) (h.bf.at h0) (h.bf.at h1))
  have HF := hide (fun m => fill_any (w.drewN m) a v p q B o T A l bl s f t hf h0 h1 ⟨h.ar.drewN m, h.bf, h.bt, Turned.refl _ _⟩)
  have h2 : ¬ (t - f = 0) := by omega
  clear h hf h0 h1 hm
  go_enter Try.func16, Try.ntmps16
  go_wp2_with fail
  refine HN.out.mono ?_
  rintro e w1 ⟨rfl, rfl⟩
  go_wp2_with fail
  refine HW.out.mono ?_
  rintro e w2 ⟨rfl, m, rfl⟩
  go_wp2_with fail
  refine (HF.out _).mono ?_
  rintro e w3 ⟨rfl, h3⟩
  have H3 := hide h3
  clear h3 HF
  go_wp2_with fail
  go_ret
  exact ⟨rfl, H3.out.ar, H3.out.bf, H3.out.bt, ((Turned.refl _ w1).drewN _).trans H3.out.tu⟩
theorem retire_none (f : Int) (hf : 0 ≤ f ∧ f ≤ l.length) (h0 : bl[o]? = some f) (h1 : bl[o + 1]? = some f) (h : Ab w w a v p q B T A l bl s) :
    Calls Try.prog 16 #[.pointer (some ⟨a, 0, none⟩), .pointer (some ⟨B, o, none⟩)] w fun e w' => e = .returned (.bool false) ∧ ∃ m, w' = w.drewN m := by
  have HN := hide (anone_any w a v p q A l s h.ar)
  have hm := h.ar.most
  have HW := hide (words_buf w B o f f (by omega) (h.bf.at h0) (h.bf.at h1))
  rw [show f - f = 0 by omega] at HW
  clear h hf h0 h1 hm
  go_enter Try.func16, Try.ntmps16
  go_wp2_with fail
  refine HN.out.mono ?_
  rintro e w1 ⟨rfl, rfl⟩
  go_wp2_with fail
  refine HW.out.mono ?_
  rintro e w2 ⟨rfl, m, rfl⟩
  go_wp2_with fail
  go_ret
  exact ⟨rfl, _, rfl⟩
end
end Go.Proofs.Ytelljfckffmjmaa

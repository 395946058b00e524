/-
  Texts of the proof, several in one: SlideLawA, SlideLs, SlideSlid, SlideLt, SlideTk, SlideWk, SlideAwakeP, SlideAwake.
-/
import Derived.Test.YtbmlggemheljkaaGreatDoorPack19
import Derived.Test.YtbmlggemheljkaaGreatDoorPack20
import Derived.Test.YtbmlggemheljkaaGreatDoorPack15
import Derived.Test.YtbmlggemheljkaaGreatDoorPack11
import Derived.Test.YtbmlggemheljkaaGreatDoorPack21
import Derived.Test.YtbmlggemheljkaaGreatDoorPack13
/-
  The laws on sliding: their heap, their marks, their plan.
-/
namespace Go.Proofs.YtbmlggemheljkaaGreatDoor
open Go.RowKit Bt
set_option linter.unusedVariables false
set_option linter.unusedSimpArgs false

/-- The words of the laws' heap. -/
def words15 (N : Nat) : List Int := (List.range N).map fun (i : Nat) => 1000 + 7 * (i : Int)
theorem words15_len (N : Nat) : (words15 N).length = N := by simp [words15]
theorem words15_succ (N : Nat) : words15 (N + 1) = words15 N ++ [1000 + 7 * (N : Int)] := by unfold words15; rw [List.range_succ, List.map_append]; rfl
theorem words15_at {N i : Nat} (h : i < N) : (words15 N)[i]? = some (1000 + 7 * (i : Int)) := by simp [words15, h]
theorem over_all (l m : List Int) (h : m.length = l.length) : over l 0 m = m := by unfold over; simp [h]
def wdC (cp : Nat) (wv : Value) (bp rp : Nat) (P : PN) (l a wt tk : Value) : Array Value := #[.pointer (some ⟨cp, 0, none⟩), wv, .pointer (some ⟨bp, 0, none⟩), .pointer (some ⟨rp, 0, none⟩), .int .i64 P.f, .int .i64 P.t, .int .i64 P.k, .int .i64 P.d, .int .i64 P.e, l, a, wt, tk]
def P0 : PN := ⟨0, 0, 0, 0, 0⟩
/-- The law's world, but for its heap: it is never changed again. -/
structure Wd (w : World) (xb cp bp bq rp rq N : Nat) (S : Nat → Nat) (P : PN) (wv l a : Value) (wq tq : Nat) : Prop where
  head : w.heap[xb]? = some (.cells (wdC cp wv bp rp P l a (slc wq P.R) (slc tq P.R)) 41)
  row : ∃ B, w.ownsRow B 2 1 wv N ((words15 N).map (Value.int .i64)) ∧ xb < B
  bts : Bts w bp bq N (sidesOf S)
  rb : RB w rp rq N S
  dpl : DPl w P S l a wq tq

/-- While it is made: so many words. -/
structure MA (w wr : World) (B xb cp cq bp bq rp rq N j : Nat) (wv : Value) : Prop where
  head : wr.heap[xb]? = some (.cells (wdC cp wv bp rp P0 (.slice none 0 0) (.slice none 0 0) (.slice none 0 0) (.slice none 0 0)) 41)
  row : wr.ownsRow B 2 1 wv j ((words15 j).map (Value.int .i64))
  mem : Mem wr cp cq (List.replicate N 0) 0
  bts : Bts wr bp bq N (sidesOf fun _ => 0)
  rb : RB wr rp rq N S0
  t : Turned [] w wr
  lo : w.heap.size ≤ xb ∧ w.heap.size ≤ cp ∧ w.heap.size ≤ cq ∧ w.heap.size ≤ bp ∧ w.heap.size ≤ bq ∧ w.heap.size ≤ rp ∧ w.heap.size ≤ rq
  hi : xb < B ∧ cp < xb ∧ cq < xb ∧ bp < xb ∧ bq < xb ∧ rp < xb ∧ rq < xb ∧ B ≤ wr.heap.size
  tab0 : 0 < w.heap.size
section
variable {w wr w5 : World} {B xb cp cq bp bq rp rq N j : Nat} {wv v' : Value}
theorem MA.next (h : MA w wr B xb cp cq bp bq rp rq N j wv) {o : Obj} (hg : (wr.alloc o).grownBy w5 wv.ownBlock) (ho : w5.ownsRow B 2 1 v' (j + 1) ((words15 (j + 1)).map (Value.int .i64))) : MA w (w5.setCell ⟨xb, 1, none⟩ v') B xb cp cq bp bq rp rq N (j + 1) v' := by
  have hv : ∀ i, wv.ownBlock = some i → B ≤ i := fun i hi => (ownsRow_lt h.row i hi).1
  have t5 : Turned wv.ownBlock.toList wr w5 := ((Turned.refl wv.ownBlock.toList wr).alloc o).grown hg (fun k hk => .inl (by simp [hk]))
  have t6 : Turned (xb :: wv.ownBlock.toList) wr (w5.setCell ⟨xb, 1, none⟩ v') := (t5.mono (fun i hi => by simp [hi])).setCell (p := ⟨xb, 1, none⟩) (.inl (by simp)) v'
  obtain ⟨h1, h2, h3, h4, h5, h6, h7, h8⟩ := h.hi
  have hl := h.lo
  have hne : ∀ x, x < xb → x ∉ xb :: wv.ownBlock.toList := fun x hx hm => by
    rcases List.mem_cons.1 hm with e | e
    · omega
    · have := hv x (by simpa using e); omega
  have e5 : w5.heap[xb]? = some (.cells (wdC cp wv bp rp P0 (.slice none 0 0) (.slice none 0 0) (.slice none 0 0) (.slice none 0 0)) 41) := by
    rw [t5.block xb (lt_of_heap h.head) (fun hm => by have := hv xb (by simpa using hm); omega)]; exact h.head
  refine ⟨by rw [heap_setCell_at _ _ _ _ _ _ e5]; rfl, ?_, h.mem.turned t6 (hne _ h2) (hne _ h3), h.bts.turned t6 (hne _ h4) (hne _ h5) (hne 0 (by have := h.tab0; omega)), h.rb.turned t6 (hne _ h6) (hne _ h7), h.t.trans_new t6 (fun i hi => .inr ?_), hl, ⟨h1, h2, h3, h4, h5, h6, h7, Nat.le_trans h8 t6.size⟩, h.tab0⟩
  · exact ownsRow_keep ho (fun i hi => ((Turned.refl [xb] w5).setCell (p := ⟨xb, 1, none⟩) (.inl (by simp)) v').block i (ownsRow_lt ho i hi).2.1 (by have := (ownsRow_lt ho i hi).1; simp; omega))
  · rcases List.mem_cons.1 hi with e | e
    · omega
    · have := hv i (by simpa using e); omega
end
theorem MA.grown {w wr w5 : World} {B xb cp cq bp bq rp rq N j : Nat} {wv : Value} (h : MA w wr B xb cp cq bp bq rp rq N j wv) {o : Obj} (hg : (wr.alloc o).grownBy w5 wv.ownBlock) : w5.heap[xb]? = some (.cells (wdC cp wv bp rp P0 (.slice none 0 0) (.slice none 0 0) (.slice none 0 0) (.slice none 0 0)) 41) := by
  have hv : ∀ i, wv.ownBlock = some i → B ≤ i := fun i hi => (ownsRow_lt h.row i hi).1
  have t5 : Turned wv.ownBlock.toList wr w5 := ((Turned.refl wv.ownBlock.toList wr).alloc o).grown hg (fun k hk => .inl (by simp [hk]))
  rw [t5.block xb (lt_of_heap h.head) (fun hm => by have := hv xb (by simpa using hm); have := h.hi.1; omega)]; exact h.head
theorem own_opens {w : World} {B : Nat} {e : TypeId} {sz : Nat} {v : Value} {n : Nat} {xs : List Value} (h : w.ownsRow B e sz v n xs) : ∃ ao cap, v = .slice ao n cap := by
  rcases h.2 with ⟨hv, h0⟩ | ⟨g, cap, cur, hv, _⟩
  · exact ⟨none, 0, by rw [h0]; exact hv⟩
  · exact ⟨_, cap, hv⟩
theorem mkS_next {n : Nat} {cs : List (Int × Int)} {j : Nat} {o : Int × Int} (ho : cs[j]? = some o) : mkS n cs (j + 1) = (markT n (mkS n cs j) o.1 o.2).2.2 := by
  show (match cs[j]? with | some c => (markT n (mkS n cs j) c.1 c.2).2.2 | none => mkS n cs j) = _
  rw [ho]
/-- While it is made: so many marks. -/
structure MD (w wr : World) (xb cp bp bq rp rq N : Nat) (cs : List (Int × Int)) (m : Nat) (wv : Value) (cq : Nat) : Prop where
  head : wr.heap[xb]? = some (.cells (wdC cp wv bp rp P0 (.slice none 0 0) (.slice none 0 0) (.slice none 0 0) (.slice none 0 0)) 41)
  row : ∃ B, wr.ownsRow B 2 1 wv N ((words15 N).map (Value.int .i64)) ∧ xb < B
  mem : Mem wr cp cq (words15 N) 0
  bts : Bts wr bp bq N (sidesOf (mkS N cs m))
  rb : RB wr rp rq N (mkS N cs m)
  t : Turned [] w wr
  lo : w.heap.size ≤ xb ∧ w.heap.size ≤ cp ∧ w.heap.size ≤ cq ∧ w.heap.size ≤ bp ∧ w.heap.size ≤ bq ∧ w.heap.size ≤ rp ∧ w.heap.size ≤ rq
  hi : cp < xb ∧ cq < xb ∧ bp < xb ∧ bq < xb ∧ rp < xb ∧ rq < xb
  ne : cp ≠ bq ∧ cq ≠ bq ∧ rp ≠ bq ∧ rq ≠ bq ∧ cp ≠ rq ∧ cq ≠ rq ∧ bp ≠ rq ∧ bp ≠ bq ∧ rp ≠ rq
  tab0 : 0 < w.heap.size
section
variable {w wr w5 w7 w8 : World} {B xb cp cq bp bq rp rq N j m : Nat} {wv v' : Value} {cs : List (Int × Int)}
theorem MA.put (h : MA w wr B xb cp cq bp bq rp rq N N wv) (hm : Mem w5 cp cq (words15 N) 0) (t : Turned [cp, cq] wr.drew w5) : MD w w5 xb cp bp bq rp rq N cs 0 wv cq := by
  have t5 : Turned [cp, cq] wr w5 := (Turned.refl [cp, cq] wr).drew.trans t
  obtain ⟨h1, h2, h3, h4, h5, h6, h7, h8⟩ := h.hi
  have hl := h.lo
  have h0 := h.tab0
  obtain ⟨bc, hbc, _⟩ := h.bts.row
  obtain ⟨rc, hrc, _⟩ := h.rb.row
  have n1 := ne_of_type h.mem.head h.bts.head (by decide)
  have n2 := ne_of_type h.mem.head hbc (by decide)
  have n3 := ne_of_type h.mem.head h.rb.head (by decide)
  have n4 := ne_of_type h.mem.head hrc (by decide)
  have n5 := ne_of_type h.mem.row h.bts.head (by decide)
  have n6 := ne_of_type h.mem.row hbc (by decide)
  have n7 := ne_of_type h.mem.row h.rb.head (by decide)
  have n8 := ne_of_type h.mem.row hrc (by decide)
  have n9 := ne_of_type h.rb.head hbc (by decide)
  have n10 := ne_of_type hrc hbc (by decide)
  have n11 := ne_of_type h.bts.head hrc (by decide)
  have n12 := h.bts.ne
  have n13 := h.rb.ne
  refine ⟨?_, ⟨B, ?_, h1⟩, hm, ?_, h.rb.turned t5 (by simp; omega) (by simp; omega), h.t.trans_new t5 (by simp; omega), hl, ⟨h2, h3, h4, h5, h6, h7⟩, by omega, h0⟩
  · rw [t5.block xb (lt_of_heap h.head) (by simp; omega)]; exact h.head
  · exact ownsRow_keep h.row (fun i hi => t5.block i (ownsRow_lt h.row i hi).2.1 (by have := (ownsRow_lt h.row i hi).1; simp; omega))
  · exact h.bts.turned t5 (by simp; omega) (by simp; omega) (by simp; omega)
theorem MD.next (h : MD w wr xb cp bp bq rp rq N cs m wv cq) (hb : Bts w7 bp bq N (sidesOf (mkS N cs (m + 1)))) (t7 : Turned [bq] wr w7) (hr : RB w8 rp rq N (mkS N cs (m + 1))) (t8 : Turned [rq] w7 w8) : MD w w8 xb cp bp bq rp rq N cs (m + 1) wv cq := by
  have t : Turned [bq, rq] wr w8 := (t7.mono (by simp)).trans (t8.mono (by simp))
  obtain ⟨n1, n2, n3, n4, n5, n6, n7, n8, n9⟩ := h.ne
  have hl := h.lo
  have hh := h.hi
  have h0 := h.tab0
  obtain ⟨B, hrow, hxB⟩ := h.row
  refine ⟨?_, ⟨B, ?_, hxB⟩, h.mem.turned t (by simp; omega) (by simp; omega), hb.turned t8 (by simp; omega) (by simp; omega) (by simp; omega), hr, h.t.trans_new t (by simp; omega), hl, hh, h.ne, h0⟩
  · rw [t.block xb (lt_of_heap h.head) (by simp; omega)]; exact h.head
  · exact ownsRow_keep hrow (fun i hi => t.block i (ownsRow_lt hrow i hi).2.1 (by have := (ownsRow_lt hrow i hi).1; simp; omega))
end
/-- The words as they lie. -/
theorem own_words {w : World} {B : Nat} {v : Value} {N : Nat} (hN : 1 ≤ N) (h : w.ownsRow B 2 1 v N ((words15 N).map (Value.int .i64))) : ∃ g cap, v = .slice (some ⟨g, 0, none⟩) N cap ∧ B ≤ g ∧ g < w.heap.size ∧ ∀ j x, (words15 N)[j]? = some x → w.cell? ⟨g, 0 + j, none⟩ = some (.int .i64 x) := by
  rcases h.2 with ⟨_, h0⟩ | ⟨g, cap, cur, hv, hg, hh, hc, _, _, ht⟩
  · omega
  · refine ⟨g, cap, hv, hg, lt_of_heap hh, fun j x hx => ?_⟩
    rw [Nat.zero_add, cell_of_heap hh]
    have h1 : ((words15 N).map (Value.int .i64))[j]? = some (.int .i64 x) := by rw [List.getElem?_map, hx]; rfl
    rw [← ht, List.getElem?_take] at h1
    split at h1
    · simpa using h1
    · cases h1

def nine4 (w : World) (xb : Nat) (P : PN) (l a wt tk : Value) : World := ((((((((w.setCell ⟨xb, 4, none⟩ (.int .i64 P.f)).setCell ⟨xb, 5, none⟩ (.int .i64 P.t)).setCell ⟨xb, 6, none⟩ (.int .i64 P.k)).setCell ⟨xb, 7, none⟩ (.int .i64 P.d)).setCell ⟨xb, 8, none⟩ (.int .i64 P.e)).setCell ⟨xb, 9, none⟩ l).setCell ⟨xb, 10, none⟩ a).setCell ⟨xb, 11, none⟩ wt).setCell ⟨xb, 12, none⟩ tk
theorem nine4_set {w : World} {xb cp bp rp : Nat} {Q : PN} {wv u0 u1 u2 u3 : Value} {T : TypeId} (h : w.heap[xb]? = some (.cells (wdC cp wv bp rp Q u0 u1 u2 u3) T)) (P : PN) (l a wt tk : Value) : (nine4 w xb P l a wt tk).heap[xb]? = some (.cells (wdC cp wv bp rp P l a wt tk) T) := by
  unfold nine4
  have s : ∀ {w : World} {c : Array Value} (i : Nat) (v : Value), w.heap[xb]? = some (.cells c T) → (w.setCell ⟨xb, i, none⟩ v).heap[xb]? = some (.cells (c.setIfInBounds i v) T) := fun i v h => heap_setCell_at _ _ _ _ _ _ h _
  rw [s 12 tk (s 11 wt (s 10 a (s 9 l (s 8 _ (s 7 _ (s 6 _ (s 5 _ (s 4 _ h))))))))]
  simp [wdC]
theorem nine4_turned (w : World) (xb : Nat) (P : PN) (l a wt tk : Value) : Turned [xb] w (nine4 w xb P l a wt tk) := by
  unfold nine4
  exact (((((((((Turned.refl [xb] w).setCell (p := ⟨xb, 4, none⟩) (.inl (by simp)) _).setCell (p := ⟨xb, 5, none⟩) (.inl (by simp)) _).setCell (p := ⟨xb, 6, none⟩) (.inl (by simp)) _).setCell (p := ⟨xb, 7, none⟩) (.inl (by simp)) _).setCell (p := ⟨xb, 8, none⟩) (.inl (by simp)) _).setCell (p := ⟨xb, 9, none⟩) (.inl (by simp)) _).setCell (p := ⟨xb, 10, none⟩) (.inl (by simp)) _).setCell (p := ⟨xb, 11, none⟩) (.inl (by simp)) _).setCell (p := ⟨xb, 12, none⟩) (.inl (by simp)) _
theorem own_at4 {w w' : World} {B : Nat} {v : Value} {n : Nat} {xs : List Value} (ho : w.ownsRow B 3 1 v n xs) {xb : Nat} {c : Array Value} {T : TypeId} (hx : w.heap[xb]? = some (.cells c T)) (hT : T ≠ 3) (t : Turned [xb] w w') : w'.ownsRow B 3 1 v n xs :=
  own_ty ho t (fun i hi => by simp at hi; subst hi; exact ⟨_, _, _, hx, hT⟩)
theorem MD.fin {w w6 w7 : World} {xb cp bp bq rp rq N : Nat} {cs : List (Int × Int)} {m : Nat} {wv : Value} {cq : Nat} (h : MD w w6 xb cp bp bq rp rq N cs m wv cq) (t7 : Turned [] w6 w7) {P : PN} {l a : Value} {wq tq : Nat} (hd : DPl w7 P (mkS N cs m) l a wq tq) (o : Obj) : Wd ((nine4 w7 xb P l a (slc wq P.R) (slc tq P.R)).alloc o) xb cp bp bq rp rq N (mkS N cs m) P wv l a wq tq ∧ Mem ((nine4 w7 xb P l a (slc wq P.R) (slc tq P.R)).alloc o) cp cq (words15 N) 0 ∧ Turned [] w ((nine4 w7 xb P l a (slc wq P.R) (slc tq P.R)).alloc o) := by
  have hh7 : w7.heap[xb]? = some (.cells (wdC cp wv bp rp P0 (.slice none 0 0) (.slice none 0 0) (.slice none 0 0) (.slice none 0 0)) 41) := by rw [t7.block xb (lt_of_heap h.head) (by simp)]; exact h.head
  have hs := nine4_set hh7 P l a (slc wq P.R) (slc tq P.R)
  have t8 := nine4_turned w7 xb P l a (slc wq P.R) (slc tq P.R)
  generalize nine4 w7 xb P l a (slc wq P.R) (slc tq P.R) = w8 at *
  have t9 : Turned [] w8 (w8.alloc o) := (Turned.refl [] w8).alloc o
  obtain ⟨h1, h2, h3, h4, h5, h6⟩ := h.hi
  have hl := h.lo
  have h0 := h.tab0
  obtain ⟨B, hrow, hxB⟩ := h.row
  have t68 : Turned [xb] w6 w8 := (t7.mono (by simp)).trans t8
  have hx8 : w7.heap[xb]? ≠ none := by rw [hh7]; simp
  refine ⟨⟨by rw [Below.heap_alloc _ _ _ (lt_of_heap hs)]; exact hs, ⟨B, own_ty (ownsRow_keep hrow (fun i hi => t68.block i (ownsRow_lt hrow i hi).2.1 (by have := (ownsRow_lt hrow i hi).1; simp; omega))) t9 (by simp), hxB⟩, (h.bts.turned t68 (by simp; omega) (by simp; omega) (by simp; omega)).turned0 t9, (h.rb.turned t68 (by simp; omega) (by simp; omega)).turned0 t9, ?_⟩, (h.mem.turned t68 (by simp; omega) (by simp; omega)).turned t9 (by simp) (by simp), (h.t.trans_new t68 (by simp; omega)).trans t9⟩
  obtain ⟨⟨B1, d1⟩, ⟨B2, d2⟩, d3, d4⟩ := hd
  refine DPl.turned0 ⟨⟨B1, own_at4 d1 hh7 (by decide) t8⟩, ⟨B2, own_at4 d2 hh7 (by decide) t8⟩, d3.turned t8 ?_, d4.turned t8 ?_⟩ t9
  · obtain ⟨c, hc, _⟩ := d3
    simp only [List.mem_singleton]
    exact ne_of_type hc hh7 (by decide)
  · obtain ⟨c, hc, _⟩ := d4
    simp only [List.mem_singleton]
    exact ne_of_type hc hh7 (by decide)

set_option maxHeartbeats 4000000 in
set_option maxRecDepth 100000 in
theorem lmade15 (ao : Option Addr) (len cap : Nat) (cs : List (Int × Int)) (k v N : Nat) (w : World) (hN : 1 ≤ N ∧ N ≤ 1000) (hk : 1 ≤ k) (hk2 : k ≤ 65536) (hv : v ≤ 1000000) (h : TwRd w ao len cs) (hT : Tab w) :
    Calls Tryz.prog 10 #[.slice ao len cap, .int .i64 (k : Int), .int .i64 (v : Int), .int .i64 (N : Int)] w fun e w' => ∃ xb cp cq bp bq rp rq P wv l a wq tq, e = .returned (.pointer (some ⟨xb, 0, none⟩)) ∧ Wd w' xb cp bp bq rp rq N (mkS N cs (min len 60)) P wv l a wq tq ∧ Mem w' cp cq (words15 N) 0 ∧ Makes (mkS N cs (min len 60)) 0 N k v P ∧ (w.heap.size ≤ xb ∧ w.heap.size ≤ cp ∧ w.heap.size ≤ cq ∧ cp < xb ∧ cq < xb) ∧ Turned [] w w' := by
  have hN1 := hN.1
  have hN2 := hN.2
  have HO := hide h
  have HL := hide h.size
  have hroom := h.room
  have HTab := hide hT
  have HCells := hide (fun (w' : World) => new_any (N : Int) w')
  rw [show (min (max (N : Int) 0) 65536).toNat = N by omega] at HCells
  have HBn := hide (fun (w' : World) (t : Turned [] w w') => Bt.new_any (N : Int) w' (by unfold In64; omega) (HTab.out.turned t (by simp)))
  have HRn := hide (fun (w' : World) (t : Turned [] w w') => rnew_any (N : Int) w' (by unfold In64; omega) (HTab.out.turned t (by simp)))
  rw [show kp 65536 (N : Int) = N by unfold kp; omega] at HBn HRn
  clear h hT
  go_enter Tryz.func10, Tryz.ntmps10
  go_wp2_with fail
  refine (HCells.out w).mono ?_
  rintro e w1 ⟨rfl, hm1, ht1, hs1⟩
  have HM1 := hide hm1
  have HT1 := hide ht1
  have HB1 := hide (HBn.out w1 ht1)
  clear hm1 ht1 hs1 HCells HBn
  generalize hcp : w.heap.size + 1 = cp at *
  generalize hcq : w.heap.size = cq at HM1
  go_wp2_with fail
  refine (HB1.out).mono ?_
  rintro e w2 ⟨bp, bq, rfl, hb2, hp2, hq2, ht2⟩
  have HM2 := hide (HM1.out.turned ht2 (by simp) (by simp))
  have HBt2 := hide hb2
  have HT2 := hide (HT1.out.trans ht2)
  have HR2 := hide (HRn.out w2 (HT1.out.trans ht2))
  have HP2 := hide (And.intro hp2 hq2)
  clear hb2 hp2 hq2 ht2 HB1 HRn HM1
  go_wp2_with fail
  refine (HR2.out).mono ?_
  rintro e w3 ⟨rp, rq, rfl, hr3, hp3, hq3, ht3⟩
  have HM3 := hide (HM2.out.turned ht3 (by simp) (by simp))
  have HBt3 := hide (HBt2.out.turned0 ht3)
  have HR3 := hide hr3
  have HT3 := hide (HT2.out.trans ht3)
  have HP3 := hide (And.intro hp3 hq3)
  have HSz2 := hide HT2.out.size
  clear hr3 hp3 hq3 ht3 HR2 HM2 HBt2 HT2
  go_upto_region 2 with fail
  generalize hxb : w3.heap.size = xb
  obtain ⟨wA, hwA⟩ : ∃ wA, wA = w3.alloc (.cells (wdC cp (.slice none 0 0) bp rp P0 (.slice none 0 0) (.slice none 0 0) (.slice none 0 0) (.slice none 0 0)) 41) := ⟨_, rfl⟩
  have HA : Hid (MA w wA wA.heap.size xb cp cq bp bq rp rq N 0 (.slice none 0 0)) := hide (by
    have hT3 := HT3.out.alloc (.cells (wdC cp (.slice none 0 0) bp rp P0 (.slice none 0 0) (.slice none 0 0) (.slice none 0 0) (.slice none 0 0)) 41)
    have tA : Turned [] w3 wA := by rw [hwA]; exact (Turned.refl [] w3).alloc _
    have hsA : wA.heap.size = xb + 1 := by rw [hwA, ← hxb]; simp
    have k1 := HT1.out.size
    have k2 := HP2.out
    have k3 := HP3.out
    have k4 := HM3.out.ltp
    have k5 := HM3.out.ltq
    have k6 := HBt3.out.ltp
    have k7 := HBt3.out.ltq
    have k8 := lt_of_heap HR3.out.head
    have k9 := HR3.out.ltq
    have k10 := HT3.out.size
    have k11 := HSz2.out
    refine ⟨by rw [hwA, ← hxb]; exact heap_alloc_new _ _, ⟨rfl, .inl ⟨rfl, rfl⟩⟩, HM3.out.turned tA (by simp) (by simp), HBt3.out.turned0 tA, HR3.out.turned0 tA, by rw [hwA]; exact hT3, by omega, by omega, block_lt (HTab.out 0 (by omega))⟩)
  have hBA : wA.heap.size ≤ wA.heap.size := Nat.le_refl _
  rw [show w3.alloc (.cells #[.pointer (some ⟨cp, 0, none⟩), .slice none 0 0, .pointer (some ⟨bp, 0, none⟩), .pointer (some ⟨rp, 0, none⟩), .int .i64 0, .int .i64 0, .int .i64 0, .int .i64 0, .int .i64 0, .slice none 0 0, .slice none 0 0, .slice none 0 0, .slice none 0 0] 41) = wA from hwA.symm]
  generalize wA.heap.size = B at HA
  clear hwA hxb hBA HM3 HBt3 HR3 HT3 HP2 HP3 HSz2
  obtain ⟨i0, hi, hi0⟩ := Option.map_eq_some_iff.1 Tryz.info2
  simp only [Prod.mk.injEq] at hi0
  obtain ⟨hz0, hz1, hz2⟩ := hi0
  go_wp2_with fail
  go_loopg [10] N (fun gg s10 wr => ∃ (j : Nat) (wv : Value), gg = N - j ∧ j ≤ N ∧ s10 = .int .i64 (j : Int) ∧ Hid (MA w wr B xb cp cq bp bq rp rq N j wv))
  case atStart => exact ⟨0, .slice none 0 0, rfl, Nat.zero_le _, rfl, HA⟩
  case round =>
    clear HA
    obtain ⟨j, wv, rfl, hj, rfl, HAr⟩ := hrel
    obtain ⟨w4, hw4⟩ : ∃ w4, w4 = wr := ⟨_, rfl⟩
    subst hw4
    by_cases hlt : j < N
    · obtain ⟨wo, wc2, rfl⟩ := own_opens HAr.out.row
      have hlti : (j : Int) < (N : Int) := by omega
      have d0 : w4.cell? ⟨xb, 1, none⟩ = some (.slice wo j wc2) := by rw [cell_of_heap HAr.out.head]; rfl
      have dl := lt_of_heap HAr.out.head
      have df : ∀ i, w4.frozen? ⟨xb, i, none⟩ = false := fun i => by simp [World.frozen?, HAr.out.head]
      have hw1 : wrap64 (7 * (j : Int)) = 7 * (j : Int) := by unfold wrap64; omega
      have hw2 : wrap64 (1000 + 7 * (j : Int)) = 1000 + 7 * (j : Int) := by unfold wrap64; omega
      have HOwn := hide HAr.out.row
      have HBs := hide HAr.out.hi.2.2.2.2.2.2.2
      have hB2 := HBs.out
      go_wp2_with (at_builtin; (refine wpList_append_own _ rfl _ _ 35 rfl B 2 i0 _ 1 8 Tryz.underlying35 hi hz0 hz1 hz2 rfl (by decide) _ _ _ rfl (own_ty HOwn.out ((Turned.refl [] w4).alloc _) (by simp)) ⟨w4.heap.size, 0, none⟩ 1 1 [.int .i64 (1000 + 7 * (j : Int))] rfl rfl (cells_new13 _ _ _ _ rfl) (ints_oneCell .i64 [1000 + 7 * (j : Int)]) (by unfold maxLen; omega) (by omega) (by simp; omega) ?_); intro v' w5 hown' hgrow5 hnil5; obtain ⟨vo, vc, rfl⟩ := own_opens hown'; have E5 := HAr.out.grown hgrow5; have dl5 := lt_of_heap E5; have df5 : w5.frozen? ⟨xb, 1, none⟩ = false := (by simp [World.frozen?, E5]); have dc5 : w5.cell? ⟨xb, 1, none⟩ = some (.slice wo j wc2) := (by rw [cell_of_heap E5]; rfl); clear E5; have HO5 := hide hown'; have HG5 : Hid (World.grownBy _ w5 (Value.slice wo j wc2).ownBlock) := hide hgrow5; clear hown' hgrow5 hnil5)
      have HN5 := hide (HAr.out.next HG5.out (by have h9 := HO5.out; rw [words15_succ, List.map_append]; exact h9))
      go_roundg (N - (j + 1))
      case measure => omega
      case rel => exact ⟨j + 1, .slice vo (j + 1) vc, rfl, hlt, by go_num, HN5⟩
    · have hjN : j = N := by omega
      subst hjN
      have hlti : ¬ (j : Int) < (j : Int) := by omega
      obtain ⟨g, gcap, rfl, hgB, hgl, hgc⟩ := own_words hN.1 HAr.out.row
      have HGc := hide hgc
      have HGb := hide hgB
      clear hgc hgB
      have HPut : Hid (∀ w', Turned [] w4 w' → Calls Tryz.prog 29 #[.pointer (some ⟨cp, 0, none⟩), .int .i64 0, .slice (some ⟨g, 0, none⟩) j gcap] w' fun e w'' => e = .returned (.int .i64 0) ∧ Mem w'' cp cq (words15 j) 0 ∧ Turned [cp, cq] w' w'') := hide (fun w' tt => by
        have hp := put_in cp cq (List.replicate j 0) 0 0 g 0 gcap (words15 j) w' (by simp; omega) (by rw [words15_len]; simp) (by rw [words15_len]; omega) (HAr.out.mem.turned tt (by simp) (by simp)) (fun i x hx => by
          rw [tt.cell (block_lt (HGc.out i x hx)) (by simp)]; exact HGc.out i x hx)
        rw [over_all _ _ (by rw [words15_len]; simp), words15_len] at hp
        exact hp)
      have c0 : w4.drew.cell? ⟨xb, 0, none⟩ = some (.pointer (some ⟨cp, 0, none⟩)) := by show w4.cell? _ = _; rw [cell_of_heap HAr.out.head]; rfl
      have c1 : w4.drew.cell? ⟨xb, 1, none⟩ = some (.slice (some ⟨g, 0, none⟩) j gcap) := by show w4.cell? _ = _; rw [cell_of_heap HAr.out.head]; rfl
      have hxn : xb ∉ [cp, cq] := by have := HAr.out.hi; simp; omega
      go_wp2_with fail
      go_region_held3 (fun w' => w'.cell? ⟨xb, 0, none⟩ = some (.pointer (some ⟨cp, 0, none⟩)) ∧ w'.cell? ⟨xb, 1, none⟩ = some (.slice (some ⟨g, 0, none⟩) j gcap)) (go_keep)
        (first
          | (go_at_call 29; refine (HPut.out _ (Turned.refl [] w4).drew).mono ?_; rintro e w5 ⟨rfl, hm5, ht5⟩; have HM5 := hide hm5; have HT5 := hide ht5; have y0 : w5.cell? ⟨xb, 0, none⟩ = some (.pointer (some ⟨cp, 0, none⟩)) := (by rw [ht5.cell (block_lt c0) hxn]; exact c0); have y1 : w5.cell? ⟨xb, 1, none⟩ = some (.slice (some ⟨g, 0, none⟩) j gcap) := (by rw [ht5.cell (block_lt c1) hxn]; exact c1); clear hm5 ht5))
      have HD5 : Hid (MD w w5 xb cp bp bq rp rq j cs 0 (.slice (some ⟨g, 0, none⟩) j gcap) cq) := hide (HAr.out.put HM5.out HT5.out)
      clear HM5 HT5 y0 y1 HAr HGc HGb HPut c0 c1
      go_wp2_with fail
      go_loopw [11] (fun i wr => ∃ m : Nat, m ≤ len ∧ m ≤ 60 ∧ i = .int .i64 m ∧ Hid (MD w wr xb cp bp bq rp rq j cs m (.slice (some ⟨g, 0, none⟩) j gcap) cq)) (fun i _ => 60 - (intOf i).toNat)
      case atStart => exact ⟨0, Nat.zero_le _, by omega, rfl, HD5⟩
      case round =>
        obtain ⟨m, hm, hm6, rfl, HD⟩ := hrel
        clear HD5
        obtain ⟨w6, hw6⟩ : ∃ w6, w6 = wr := ⟨_, rfl⟩
        subst hw6
        by_cases hlt2 : m < len ∧ m < 60
        · obtain ⟨o, ho⟩ : ∃ o, cs[m]? = some o := ⟨_, List.getElem?_eq_getElem (by have := HL.out; omega)⟩
          obtain ⟨b, off, rfl, c1, c2⟩ := (HO.out.turned HD.out.t).cell m o ho
          have hin := HO.out.inn o (List.mem_of_getElem? ho)
          have hnx := mkS_next (n := j) (cs := cs) ho
          have hbw : b < w.heap.size := by
            obtain ⟨b2, off2, e1, c3, _⟩ := HO.out.cell m o ho
            cases e1
            exact block_lt c3
          have hbq : b ≠ bq ∧ b ≠ rq := by have := HD.out.lo; omega
          obtain ⟨At, Z⟩ := o
          simp only at c1 c2 hin hnx
          have hxq : xb ≠ bq ∧ xb ≠ rq := by have := HD.out.hi; omega
          have HMk := hide (mark_any bp bq j (mkS j cs m) At Z · · (mkS_bl j cs m) hin.2)
          have HMk2 := hide (rmark_any rp rq j (mkS j cs m) At Z · hin.2 ·)
          rw [← hnx] at HMk HMk2
          generalize (markT j (mkS j cs m) At Z).1 = t1 at *
          generalize (markT j (mkS j cs m) At Z).2.1 = t2 at *
          have hji : (m : Int) < len := by omega
          have hj6i : (m : Int) < 60 := by omega
          have d2 : w6.cell? ⟨xb, 2, none⟩ = some (.pointer (some ⟨bp, 0, none⟩)) := by rw [cell_of_heap HD.out.head]; rfl
          have d3 : w6.cell? ⟨xb, 3, none⟩ = some (.pointer (some ⟨rp, 0, none⟩)) := by rw [cell_of_heap HD.out.head]; rfl
          have HX := hide (And.intro (And.intro hbq hbw) hxq)
          clear hnx hin ho hbw hbq hxq
          go_wp2_with fail
          go_region_held3 (fun w' => w'.cell? ⟨xb, 2, none⟩ = some (.pointer (some ⟨bp, 0, none⟩)) ∧ w'.cell? ⟨b, off + m * 2, none⟩ = some (.int .i64 At) ∧ w'.cell? ⟨b, off + m * 2 + 1, none⟩ = some (.int .i64 Z)) (go_keep)
            (first
              | (go_at_call 30; refine (HMk.out _ (HD.out.bts.turned0 (Turned.refl [] w6).drew)).mono ?_; rintro e w7 ⟨rfl, hb7, ht7⟩; have z1 : w7.cell? ⟨b, off + m * 2, none⟩ = some (.int .i64 At) := (by rw [ht7.cell (block_lt c1) (by simpa using HX.out.1.1.1)]; exact c1); have z2 : w7.cell? ⟨b, off + m * 2 + 1, none⟩ = some (.int .i64 Z) := (by rw [ht7.cell (block_lt c2) (by simpa using HX.out.1.1.1)]; exact c2); have z3 : w7.cell? ⟨xb, 2, none⟩ = some (.pointer (some ⟨bp, 0, none⟩)) := (by rw [ht7.cell (block_lt d2) (by simpa using HX.out.2.1)]; exact d2); have z4 : w7.cell? ⟨xb, 3, none⟩ = some (.pointer (some ⟨rp, 0, none⟩)) := (by rw [ht7.cell (block_lt d3) (by simpa using HX.out.2.1)]; exact d3); have HB7 := hide hb7; have HT7 := hide ((Turned.refl [bq] w6).drew.trans ht7); clear hb7 ht7))
          have HR7 := hide (HD.out.rb.turned HT7.out (by have := HD.out.ne; simp; omega) (by have := HD.out.ne; simp; omega))
          clear c1 c2 d2 d3
          go_wp2_with fail
          go_region_held3 (fun w' => w'.cell? ⟨xb, 3, none⟩ = some (.pointer (some ⟨rp, 0, none⟩)) ∧ w'.cell? ⟨b, off + m * 2, none⟩ = some (.int .i64 At) ∧ w'.cell? ⟨b, off + m * 2 + 1, none⟩ = some (.int .i64 Z)) (go_keep)
            (first
              | (go_at_call 31; refine (HMk2.out _ (HR7.out.turned0 (Turned.refl [] w7).drew)).mono ?_; rintro e w8 ⟨rfl, hr8, ht8⟩; have q1 : w8.cell? ⟨b, off + m * 2, none⟩ = some (.int .i64 At) := (by rw [ht8.cell (block_lt z1) (by simpa using HX.out.1.1.2)]; exact z1); have q2 : w8.cell? ⟨b, off + m * 2 + 1, none⟩ = some (.int .i64 Z) := (by rw [ht8.cell (block_lt z2) (by simpa using HX.out.1.1.2)]; exact z2); have q3 : w8.cell? ⟨xb, 3, none⟩ = some (.pointer (some ⟨rp, 0, none⟩)) := (by rw [ht8.cell (block_lt z4) (by simpa using HX.out.2.2)]; exact z4); have HR8 := hide hr8; have HT8 := hide ((Turned.refl [rq] w7).drew.trans ht8); clear hr8 ht8))
          have HD8 := hide (HD.out.next HB7.out HT7.out HR8.out HT8.out)
          clear z1 z2 z3 z4 q1 q2 q3 HB7 HR7 HR8 HT7 HT8 HD HMk HMk2
          go_wp2_with fail
          go_roundw
          case rel => exact ⟨m + 1, by omega, by omega, by go_num, HD8⟩
          case measure => simp [intOf]; omega
        · have hjm : m = min len 60 := by omega
          have HJ := hide hjm
          have HMp := hide (rmake13 rp rq j (mkS j cs m) 0 j k v w6 HD.out.rb (by omega) (Nat.le_refl _) hk hk2 hv (noCut0 _) (noCutN (mkS_bl j cs m)))
          rw [show ((0 : Nat) : Int) = 0 from rfl] at HMp
          by_cases h1 : m < len
          · have h1i : (m : Int) < (len : Int) := by omega
            have h2i : ¬ (m : Int) < 60 := by omega
            have d3 : w6.cell? ⟨xb, 3, none⟩ = some (.pointer (some ⟨rp, 0, none⟩)) := by rw [cell_of_heap HD.out.head]; rfl
            clear hjm
            go_wp2_with fail
            refine (HMp.out).mono ?_
            rintro e w7 ⟨P, l, a, wq, tq, rfl, hM, hD, ht7⟩
            have HT7 := hide ht7
            have HSt := hide (And.intro hM HT7)
            have hh7 : w7.heap[xb]? = some (.cells (wdC cp (.slice (some ⟨g, 0, none⟩) j gcap) bp rp P0 (.slice none 0 0) (.slice none 0 0) (.slice none 0 0) (.slice none 0 0)) 41) := by rw [ht7.block xb (lt_of_heap HD.out.head) (by simp)]; exact HD.out.head
            clear ht7
            obtain ⟨lo, lc, rfl⟩ : ∃ lo lc, l = .slice lo P.R lc := own_opens hD.lv.choose_spec
            obtain ⟨ho, hc, rfl⟩ : ∃ ho hc, a = .slice ho P.R hc := own_opens hD.ah.choose_spec
            have HDp := hide hD
            obtain ⟨pf, pt, pk, pd, pe⟩ := P
            unfold plC slc
            have dl7 := lt_of_heap hh7
            have df7 : ∀ i, w7.frozen? ⟨xb, i, none⟩ = false := fun i => by simp [World.frozen?, hh7]
            have e4 : w7.cell? ⟨xb, 4, none⟩ = some (.int .i64 0) := by rw [cell_of_heap hh7]; rfl
            have e5 : w7.cell? ⟨xb, 5, none⟩ = some (.int .i64 0) := by rw [cell_of_heap hh7]; rfl
            have e6 : w7.cell? ⟨xb, 6, none⟩ = some (.int .i64 0) := by rw [cell_of_heap hh7]; rfl
            have e7 : w7.cell? ⟨xb, 7, none⟩ = some (.int .i64 0) := by rw [cell_of_heap hh7]; rfl
            have e8 : w7.cell? ⟨xb, 8, none⟩ = some (.int .i64 0) := by rw [cell_of_heap hh7]; rfl
            have e9 : w7.cell? ⟨xb, 9, none⟩ = some (.slice none 0 0) := by rw [cell_of_heap hh7]; rfl
            have e10 : w7.cell? ⟨xb, 10, none⟩ = some (.slice none 0 0) := by rw [cell_of_heap hh7]; rfl
            have e11 : w7.cell? ⟨xb, 11, none⟩ = some (.slice none 0 0) := by rw [cell_of_heap hh7]; rfl
            have e12 : w7.cell? ⟨xb, 12, none⟩ = some (.slice none 0 0) := by rw [cell_of_heap hh7]; rfl
            have HH7 := hide hh7
            clear hD hM hh7
            go_wp2_with fail
            go_ret
            obtain ⟨f1, f2, f3⟩ := HD.out.fin HT7.out HDp.out (.cells #[.int .i64 (pf : Int), .int .i64 (pt : Int), .int .i64 (pk : Int), .int .i64 (pd : Int), .int .i64 (pe : Int), .slice lo (PN.R ⟨pf, pt, pk, pd, pe⟩) lc, .slice ho (PN.R ⟨pf, pt, pk, pd, pe⟩) hc, .slice (some ⟨wq, 0, none⟩) (PN.R ⟨pf, pt, pk, pd, pe⟩) (PN.R ⟨pf, pt, pk, pd, pe⟩), .slice (some ⟨tq, 0, none⟩) (PN.R ⟨pf, pt, pk, pd, pe⟩) (PN.R ⟨pf, pt, pk, pd, pe⟩)] 39)
            rw [← HJ.out]
            have hlo := HD.out.lo
            exact ⟨xb, cp, cq, bp, bq, rp, rq, ⟨pf, pt, pk, pd, pe⟩, _, _, _, wq, tq, rfl, f1, f2, HSt.out.1, ⟨hlo.1, hlo.2.1, hlo.2.2.1, HD.out.hi.1, HD.out.hi.2.1⟩, f3⟩
          · have h1i : ¬ (m : Int) < (len : Int) := by omega
            have d3 : w6.cell? ⟨xb, 3, none⟩ = some (.pointer (some ⟨rp, 0, none⟩)) := by rw [cell_of_heap HD.out.head]; rfl
            clear hjm
            go_wp2_with fail
            refine (HMp.out).mono ?_
            rintro e w7 ⟨P, l, a, wq, tq, rfl, hM, hD, ht7⟩
            have HT7 := hide ht7
            have HSt := hide (And.intro hM HT7)
            have hh7 : w7.heap[xb]? = some (.cells (wdC cp (.slice (some ⟨g, 0, none⟩) j gcap) bp rp P0 (.slice none 0 0) (.slice none 0 0) (.slice none 0 0) (.slice none 0 0)) 41) := by rw [ht7.block xb (lt_of_heap HD.out.head) (by simp)]; exact HD.out.head
            clear ht7
            obtain ⟨lo, lc, rfl⟩ : ∃ lo lc, l = .slice lo P.R lc := own_opens hD.lv.choose_spec
            obtain ⟨ho, hc, rfl⟩ : ∃ ho hc, a = .slice ho P.R hc := own_opens hD.ah.choose_spec
            have HDp := hide hD
            obtain ⟨pf, pt, pk, pd, pe⟩ := P
            unfold plC slc
            have dl7 := lt_of_heap hh7
            have df7 : ∀ i, w7.frozen? ⟨xb, i, none⟩ = false := fun i => by simp [World.frozen?, hh7]
            have e4 : w7.cell? ⟨xb, 4, none⟩ = some (.int .i64 0) := by rw [cell_of_heap hh7]; rfl
            have e5 : w7.cell? ⟨xb, 5, none⟩ = some (.int .i64 0) := by rw [cell_of_heap hh7]; rfl
            have e6 : w7.cell? ⟨xb, 6, none⟩ = some (.int .i64 0) := by rw [cell_of_heap hh7]; rfl
            have e7 : w7.cell? ⟨xb, 7, none⟩ = some (.int .i64 0) := by rw [cell_of_heap hh7]; rfl
            have e8 : w7.cell? ⟨xb, 8, none⟩ = some (.int .i64 0) := by rw [cell_of_heap hh7]; rfl
            have e9 : w7.cell? ⟨xb, 9, none⟩ = some (.slice none 0 0) := by rw [cell_of_heap hh7]; rfl
            have e10 : w7.cell? ⟨xb, 10, none⟩ = some (.slice none 0 0) := by rw [cell_of_heap hh7]; rfl
            have e11 : w7.cell? ⟨xb, 11, none⟩ = some (.slice none 0 0) := by rw [cell_of_heap hh7]; rfl
            have e12 : w7.cell? ⟨xb, 12, none⟩ = some (.slice none 0 0) := by rw [cell_of_heap hh7]; rfl
            have HH7 := hide hh7
            clear hD hM hh7
            go_wp2_with fail
            go_ret
            obtain ⟨f1, f2, f3⟩ := HD.out.fin HT7.out HDp.out (.cells #[.int .i64 (pf : Int), .int .i64 (pt : Int), .int .i64 (pk : Int), .int .i64 (pd : Int), .int .i64 (pe : Int), .slice lo (PN.R ⟨pf, pt, pk, pd, pe⟩) lc, .slice ho (PN.R ⟨pf, pt, pk, pd, pe⟩) hc, .slice (some ⟨wq, 0, none⟩) (PN.R ⟨pf, pt, pk, pd, pe⟩) (PN.R ⟨pf, pt, pk, pd, pe⟩), .slice (some ⟨tq, 0, none⟩) (PN.R ⟨pf, pt, pk, pd, pe⟩) (PN.R ⟨pf, pt, pk, pd, pe⟩)] 39)
            rw [← HJ.out]
            have hlo := HD.out.lo
            exact ⟨xb, cp, cq, bp, bq, rp, rq, ⟨pf, pt, pk, pd, pe⟩, _, _, _, wq, tq, rfl, f1, f2, HSt.out.1, ⟨hlo.1, hlo.2.1, hlo.2.2.1, HD.out.hi.1, HD.out.hi.2.1⟩, f3⟩
end Go.Proofs.YtbmlggemheljkaaGreatDoor

/-
  A slider through a law: all that stays, what each call does.
-/
namespace Go.Proofs.YtbmlggemheljkaaGreatDoor
open Go.RowKit Bt
set_option linter.unusedVariables false
set_option linter.unusedSimpArgs false

/-- What stays the same through a law. -/
structure LI where
  xb : Nat
  cp : Nat
  cq : Nat
  bp : Nat
  bq : Nat
  rp : Nat
  rq : Nat
  N : Nat
  n : Nat
  S : Nat → Nat
  P : PN
  wv : Value
  l : Value
  a : Value
  wq : Nat
  tq : Nat
  I : SlI
  w0 : World
  w00 : World
  wb : World
theorem via {w00 w' wb : World} {T : List Nat} (t1 : Turned [] w00 w') (t2 : Turned T wb w') (hs : w00.heap.size ≤ wb.heap.size) : Turned T w00 wb :=
  ⟨t2.os.symm.trans t1.os, t2.tape.symm.trans t1.tape, t2.output.symm.trans t1.output, hs, fun k hk hn => by rw [← t2.block k (by omega) hn, t1.block k hk (by simp)]⟩
/-- A slider through a law. -/
structure Ls (J : LI) (w : World) (u : Nat → Nat) (s : SlS) (v m : Value) : Prop where
  wd : Wd J.w00 J.xb J.cp J.bp J.bq J.rp J.rq J.N J.S J.P J.wv J.l J.a J.wq J.tq
  mem : Mem J.w00 J.cp J.cq (words15 J.N) 0
  lt : J.cp < J.xb ∧ J.cq < J.xb
  vb : Turned [J.cp, J.cq] J.w00 J.wb
  sl : Sl J.wb w J.I J.P J.S s v m
  ic : J.I.cp = J.cp ∧ J.I.cq = J.cq ∧ J.I.ws.length = J.n
  si : SI J.P J.S J.n (words15 J.N) u s
  n0 : 0 < J.n ∧ J.n ≤ 64
  t0 : Turned [] J.w0 J.w00
  lo : 0 < J.w0.heap.size ∧ J.w0.heap.size ≤ J.cp ∧ J.w0.heap.size ≤ J.cq
  pt : J.P.t = J.N ∧ J.N ≤ 1000 ∧ J.P.R ≤ 1000
section
variable {J : LI} {w w' : World} {u : Nat → Nat} {s : SlS} {v m : Value}
theorem Ls.fit (h : Ls J w u s v m) : Fit J.P (live J.S) := h.sl.c.fit
theorem Ls.all (h : Ls J w u s v m) : Turned [J.cp, J.cq] J.w00 w := by
  have := h.sl.t
  rw [h.ic.1, h.ic.2.1] at this
  exact h.vb.trans this
/-- The law's own things are as they were. -/
theorem Ls.wdw (h : Ls J w u s v m) : Wd w J.xb J.cp J.bp J.bq J.rp J.rq J.N J.S J.P J.wv J.l J.a J.wq J.tq := by
  have t := h.all
  obtain ⟨l1, l2⟩ := h.lt
  obtain ⟨B, hrow, hxB⟩ := h.wd.row
  obtain ⟨bc, hbc, _⟩ := h.wd.bts.row
  obtain ⟨rc, hrc, _⟩ := h.wd.rb.row
  have n1 := ne_of_type h.mem.head h.wd.bts.head (by decide)
  have n2 := ne_of_type h.mem.head hbc (by decide)
  have n3 := ne_of_type h.mem.head h.wd.rb.head (by decide)
  have n4 := ne_of_type h.mem.head hrc (by decide)
  have n5 := ne_of_type h.mem.row h.wd.bts.head (by decide)
  have n6 := ne_of_type h.mem.row hbc (by decide)
  have n7 := ne_of_type h.mem.row h.wd.rb.head (by decide)
  have n8 := ne_of_type h.mem.row hrc (by decide)
  have h0 := h.lo
  have hT : ∀ e : TypeId, e ≠ 90 → e ≠ 2 → ∀ i, i ∈ [J.cp, J.cq] → ∃ c' e' fr, J.w00.heap[i]? = some (.cells c' e' fr) ∧ e' ≠ e := by
    intro e h1 h2 i hi
    simp at hi
    rcases hi with rfl | rfl
    · exact ⟨_, _, _, h.mem.head, fun e => h1 e.symm⟩
    · exact ⟨_, _, _, h.mem.row, fun e => h2 e.symm⟩
  refine ⟨keep_ty t h.wd.head (hT _ (by decide) (by decide)), ⟨B, ownsRow_keep hrow (fun i hi => t.block i (ownsRow_lt hrow i hi).2.1 (by have := (ownsRow_lt hrow i hi).1; simp; omega)), hxB⟩, h.wd.bts.turned t (by simp; omega) (by simp; omega) (by simp; omega), h.wd.rb.turned t (by simp; omega) (by simp; omega), ?_⟩
  obtain ⟨⟨B1, d1⟩, ⟨B2, d2⟩, d3, d4⟩ := h.wd.dpl
  refine ⟨⟨B1, own_ty d1 t (hT _ (by decide) (by decide))⟩, ⟨B2, own_ty d2 t (hT _ (by decide) (by decide))⟩, d3.ty t (hT _ (by decide) (by decide)), d4.turned t ?_⟩
  obtain ⟨c, hc, _⟩ := d4
  have := ne_of_type hc h.mem.head (by decide)
  have := ne_of_type hc h.mem.row (by decide)
  simp; omega
theorem Ls.t_ (h : Ls J w u s v m) : Turned [] J.w0 w := h.t0.trans_new h.all (by have := h.lo; simp; omega)
theorem Ls.quiet (h : Ls J w u s v m) (t : Turned [] w w') : Ls J w' u s v m := ⟨h.wd, h.mem, h.lt, h.vb, h.sl.quiet t, h.ic, h.si, h.n0, h.t0, h.lo, h.pt⟩
theorem Ls.hN (h : Ls J w u s v m) : J.P.t ≤ (words15 J.N).length := by rw [words15_len, h.pt.1]; exact Nat.le_refl _
theorem Ls.hR (h : Ls J w u s v m) : J.P.R ≤ 30000 := by have := h.pt; omega
theorem Ls.mv6 (h : Ls J w u s v m) : (∀ p, p ∈ s.mv → p.1 ≤ 65536 ∧ p.2 ≤ 65536) ∧ s.mv.length ≤ 1000 := by
  have hf := h.fit
  have h1 := hf.ok.few
  have h2 := hf.et
  refine ⟨fun p hp => ?_, ?_⟩
  · obtain ⟨a, b⟩ := (h.si.m1 p.1 p.2).1 hp
    unfold stored at a
    rw [decide_eq_true_eq] at a
    have := (hf.srcs a.1 a.2.1).2.1
    rw [b]
    omega
  · have := h.si.mv_len hf
    have := h.pt
    omega
/-- Step. -/
theorem ls_step (h : Ls J w u s v m) (k : Nat) (hk : k < J.n) :
    Calls Tryz.prog 16 #[.pointer (some ⟨J.I.sb, 0, none⟩), .int .i64 (k : Int)] w fun e w' => ∃ u' v' m', e = .returned (.int .i64 (toldS (stepSl J.P J.S s k))) ∧ Ls J w' u' (stepSl J.P J.S s k) v' m' ∧ Did J.P J.S u s (stepSl J.P J.S s k) ∧ remU J.P u' ≤ remU J.P u ∧ (s.left ≠ 0 → Acts s k → remU J.P u' + 1 = remU J.P u) ∧ (¬ (s.left ≠ 0 ∧ Acts s k) → u' = u ∧ stepSl J.P J.S s k = s) ∧ SOut J.I v m v' m' w w' := by
  obtain ⟨hm, u', h1, h2, h3, h4, h5⟩ := h.si.next h.fit h.hN h.hR hk
  refine (sstep_any J.wb w J.I J.P J.S s v m k h.sl (by rw [h.ic.2.2]; exact hk) (by rw [h.ic.2.2]; exact h.n0.2) hm).mono ?_
  rintro e w' ⟨rfl, v', m', hs, ho⟩
  exact ⟨u', v', m', rfl, ⟨h.wd, h.mem, h.lt, h.vb, hs, h.ic, h1, h.n0, h.t0, h.lo, h.pt⟩, h2, h3, fun a b => (h4 a b).1, h5, ho⟩
/-- Step of one worker alone. -/
theorem ls_step1 (h : Ls J w u s v m) (h1 : J.n = 1) (hr : RI J.P J.S u s) (hl : s.left ≠ 0) :
    Calls Tryz.prog 16 #[.pointer (some ⟨J.I.sb, 0, none⟩), .int .i64 0] w fun e w' => ∃ u' v' m', e = .returned (.int .i64 (toldS (stepSl J.P J.S s 0))) ∧ Ls J w' u' (stepSl J.P J.S s 0) v' m' ∧ RI J.P J.S u' (stepSl J.P J.S s 0) ∧ sm u' J.P.R = sm u J.P.R + 1 := by
  obtain ⟨hm, _⟩ := h.si.next h.fit h.hN h.hR (k := 0) (by omega)
  have hsi := h.si
  rw [h1] at hsi
  obtain ⟨u', g1, g2, g3⟩ := RI.next hsi hr h.fit h.hN h.hR hl
  rw [← h1] at g1
  refine (sstep_any J.wb w J.I J.P J.S s v m 0 h.sl (by rw [h.ic.2.2]; omega) (by rw [h.ic.2.2]; exact h.n0.2) hm).mono ?_
  rintro e w' ⟨rfl, v', m', hs, ho⟩
  exact ⟨u', v', m', rfl, ⟨h.wd, h.mem, h.lt, h.vb, hs, h.ic, g1, h.n0, h.t0, h.lo, h.pt⟩, g2, g3⟩
theorem ls_done (h : Ls J w u s v m) :
    Calls Tryz.prog 13 #[.pointer (some ⟨J.I.sb, 0, none⟩)] w fun e w' => e = .returned (.bool (decide (s.left = 0))) ∧ w' = w := sdone_any J.wb w J.I J.P J.S s v m h.sl
theorem ls_moves (h : Ls J w u s v m) :
    Calls Tryz.prog 17 #[.pointer (some ⟨J.I.sb, 0, none⟩)] w fun e w' => ∃ ao cap, e = .returned (.slice ao s.mv.length cap) ∧ TwRd w' ao s.mv.length (mvI s.mv) ∧ (∀ a, ao = some a → w.heap.size ≤ a.block) ∧ Turned [] w w' :=
  smoves_any J.wb w J.I J.P J.S s v m h.sl h.mv6.1 (by have := h.mv6.2; omega)
theorem ls_waits (h : Ls J w u s v m) :
    Calls Tryz.prog 14 #[.pointer (some ⟨J.I.sb, 0, none⟩)] w fun e w' => ∃ z zc, e = .returned (.slice (some ⟨z, 0, none⟩) J.P.R zc) ∧ Ri w' 3 z J.P.R (fun j => (s.wt j : Nat)) ∧ w.heap.size ≤ z ∧ Turned [] w w' := swaits_any J.wb w J.I J.P J.S s v m h.sl
theorem ls_steps (h : Ls J w u s v m) :
    Calls Tryz.prog 15 #[.pointer (some ⟨J.cp, 0, none⟩)] w fun e w' => e = .returned (.int .i64 s.ac) ∧ w' = w := by
  have := h.sl.mem
  rw [h.ic.1, h.ic.2.1] at this
  exact steps_mem J.cp J.cq s.hw s.ac w this
theorem ls_words (h : Ls J w u s v m) (hN : 0 < J.N) :
    Calls Tryz.prog 21 #[.pointer (some ⟨J.cp, 0, none⟩), .int .i64 0, .int .i64 (J.N : Int)] w fun e w' => ∃ g cap, e = .returned (.slice (some ⟨g, 0, none⟩) J.N cap) ∧ J.N ≤ cap ∧ (∀ i x, s.hw[i]? = some x → w'.cell? ⟨g, i, none⟩ = some (.int .i64 x)) ∧ w.heap.size ≤ g ∧ Turned [] w w' := by
  have hmm := h.sl.mem
  rw [h.ic.1, h.ic.2.1] at hmm
  have hl : s.hw.length = J.N := by rw [h.si.hl, words15_len]
  have hp := h.pt
  refine (words_mem J.cp J.cq s.hw s.ac 0 (J.N : Int) w (by omega) hmm).mono ?_
  rw [show (min (max (J.N : Int) 0) (s.hw.length : Int)).toNat = s.hw.length by omega, show (min (max (0 : Int) 0) (s.hw.length : Int)).toNat = 0 by omega, List.take_length, List.drop_zero, hl]
  rintro e w' ⟨v', rfl, ho, t⟩
  rcases ho.2 with ⟨_, h0⟩ | ⟨g, cap, cur, hv, hg, hh, hc, _, hcap, ht⟩
  · omega
  · have hle : J.N ≤ cap := hc
    refine ⟨g, cap, by rw [hv], hle, fun i x hx => ?_, hg, t⟩
    rw [cell_of_heap hh]
    have h1 : (s.hw.map (Value.int .i64))[i]? = some (.int .i64 x) := by rw [List.getElem?_map, hx]; rfl
    rw [← ht, List.getElem?_take] at h1
    split at h1
    · simpa using h1
    · cases h1
end
/-- A slider is made. -/
theorem ls_new (w0 w00 w : World) (xb cp cq bp bq rp rq N n k vv : Nat) (S : Nat → Nat) (P : PN) (wv l a : Value) (wq tq : Nat) (hd : Wd w00 xb cp bp bq rp rq N S P wv l a wq tq) (hm : Mem w00 cp cq (words15 N) 0) (hM : Makes S 0 N k vv P) (hs : Bl N S) (hlt : cp < xb ∧ cq < xb) (t0 : Turned [] w0 w00) (lo : 0 < w0.heap.size ∧ w0.heap.size ≤ cp ∧ w0.heap.size ≤ cq) (hN : 1 ≤ N ∧ N ≤ 1000) (hk : 1 ≤ k) (hk2 : k ≤ 65536) (hn : 0 < n ∧ n ≤ 64) (tt : Turned [] w00 w) :
    Calls Tryz.prog 12 #[.pointer (some ⟨cp, 0, none⟩), .pointer (some ⟨bp, 0, none⟩), .agg (plC P l a (slc wq P.R) (slc tq P.R)), .int .i64 (n : Int)] w fun e w' => ∃ (I : SlI) (wb : World) (v m : Value), e = .returned (.tuple #[.pointer (some ⟨I.sb, 0, none⟩), .int .i64 0]) ∧ Ls ⟨xb, cp, cq, bp, bq, rp, rq, N, n, S, P, wv, l, a, wq, tq, I, w0, w00, wb⟩ w' zeroU (startS P S (words15 N) 0 n) v m ∧ w.heap.size ≤ I.sb ∧ Turned [] w w' := by
  have hOk := hM.ok (Nat.zero_le N) (by omega) hk hk2
  have hf := hM.f_
  have ht := hM.t_
  have hR : P.R ≤ N := by
    unfold PN.R
    split
    · have := Nat.div_le_self (P.t - P.f - 1) P.k; omega
    · omega
  refine (snew_ok cp cq bp N n S P l a wq tq (words15 N) 0 w 0 N k vv (hm.turned tt (by simp) (by simp)) (words15_len N) (hd.bts.turned0 tt).brd hs hM (hd.dpl.turned0 tt) (Nat.zero_le _) (Nat.le_refl _) hk hk2 (noCut0 S) (noCutN hs) hn.1 hn.2 (by omega) (by omega) (by omega) (by omega)).mono ?_
  rintro e w' ⟨I, wb, v', m', rfl, hsl, e1, e2, e3, e4, e5, hsz, tw⟩
  have t2 := hsl.t
  rw [e1, e2] at t2
  refine ⟨I, wb, v', m', rfl, ⟨hd, hm, hlt, via (tt.trans tw) t2 (by have := tt.size; show w00.heap.size ≤ wb.heap.size; omega), hsl, ⟨e1, e2, e5⟩, SI.start hsl.c.fit _ _ _, hn, t0, lo, ⟨ht, hN.2, by show P.R ≤ 1000; omega⟩⟩, ?_, tw⟩
  have := hsl.nsb
  omega
/-- Its names in a law. -/
structure LI.Is (J : LI) (sb xb cp rp N n : Nat) (P : PN) (S : Nat → Nat) (wv l a : Value) (wq tq : Nat) : Prop where
  sb : J.I.sb = sb
  xb : J.xb = xb
  cp : J.cp = cp
  rp : J.rp = rp
  N : J.N = N
  n : J.n = n
  P : J.P = P
  S : J.S = S
  wv : J.wv = wv
  l : J.l = l
  a : J.a = a
  wq : J.wq = wq
  tq : J.tq = tq
section
variable {J : LI} {w w' : World} {u : Nat → Nat} {s : SlS} {v m : Value} {sb xb cp rp N n wq tq : Nat} {P : PN} {S : Nat → Nat} {wv l a : Value}
theorem lx_step (h : Ls J w u s v m) (e : J.Is sb xb cp rp N n P S wv l a wq tq) (k : Nat) (hk : k < n) :
    Calls Tryz.prog 16 #[.pointer (some ⟨sb, 0, none⟩), .int .i64 (k : Int)] w fun e w' => ∃ u' v' m', e = .returned (.int .i64 (toldS (stepSl P S s k))) ∧ Ls J w' u' (stepSl P S s k) v' m' ∧ Did P S u s (stepSl P S s k) ∧ remU P u' ≤ remU P u ∧ (s.left ≠ 0 → Acts s k → remU P u' + 1 = remU P u) ∧ (¬ (s.left ≠ 0 ∧ Acts s k) → u' = u ∧ stepSl P S s k = s) ∧ SOut J.I v m v' m' w w' := by
  obtain ⟨rfl, rfl, rfl, rfl, rfl, rfl, rfl, rfl, rfl, rfl, rfl, rfl, rfl⟩ := e
  exact ls_step h k hk
theorem lx_step1 (h : Ls J w u s v m) (e : J.Is sb xb cp rp N 1 P S wv l a wq tq) (hr : RI P S u s) (hl : s.left ≠ 0) :
    Calls Tryz.prog 16 #[.pointer (some ⟨sb, 0, none⟩), .int .i64 0] w fun e w' => ∃ u' v' m', e = .returned (.int .i64 (toldS (stepSl P S s 0))) ∧ Ls J w' u' (stepSl P S s 0) v' m' ∧ RI P S u' (stepSl P S s 0) ∧ sm u' P.R = sm u P.R + 1 := by
  obtain ⟨rfl, rfl, rfl, rfl, rfl, en, rfl, rfl, rfl, rfl, rfl, rfl, rfl⟩ := e
  exact ls_step1 h en hr hl
theorem lx_done (h : Ls J w u s v m) (e : J.Is sb xb cp rp N n P S wv l a wq tq) :
    Calls Tryz.prog 13 #[.pointer (some ⟨sb, 0, none⟩)] w fun e w' => e = .returned (.bool (decide (s.left = 0))) ∧ w' = w := by
  obtain ⟨rfl, rfl, rfl, rfl, rfl, rfl, rfl, rfl, rfl, rfl, rfl, rfl, rfl⟩ := e
  exact ls_done h
theorem lx_moves (h : Ls J w u s v m) (e : J.Is sb xb cp rp N n P S wv l a wq tq) :
    Calls Tryz.prog 17 #[.pointer (some ⟨sb, 0, none⟩)] w fun e w' => ∃ ao cap, e = .returned (.slice ao s.mv.length cap) ∧ TwRd w' ao s.mv.length (mvI s.mv) ∧ (∀ a, ao = some a → w.heap.size ≤ a.block) ∧ Turned [] w w' := by
  obtain ⟨rfl, rfl, rfl, rfl, rfl, rfl, rfl, rfl, rfl, rfl, rfl, rfl, rfl⟩ := e
  exact ls_moves h
theorem lx_waits (h : Ls J w u s v m) (e : J.Is sb xb cp rp N n P S wv l a wq tq) :
    Calls Tryz.prog 14 #[.pointer (some ⟨sb, 0, none⟩)] w fun e w' => ∃ z zc, e = .returned (.slice (some ⟨z, 0, none⟩) P.R zc) ∧ Ri w' 3 z P.R (fun j => (s.wt j : Nat)) ∧ w.heap.size ≤ z ∧ Turned [] w w' := by
  obtain ⟨rfl, rfl, rfl, rfl, rfl, rfl, rfl, rfl, rfl, rfl, rfl, rfl, rfl⟩ := e
  exact ls_waits h
theorem lx_steps (h : Ls J w u s v m) (e : J.Is sb xb cp rp N n P S wv l a wq tq) :
    Calls Tryz.prog 15 #[.pointer (some ⟨cp, 0, none⟩)] w fun e w' => e = .returned (.int .i64 s.ac) ∧ w' = w := by
  obtain ⟨rfl, rfl, rfl, rfl, rfl, rfl, rfl, rfl, rfl, rfl, rfl, rfl, rfl⟩ := e
  exact ls_steps h
theorem lx_words (h : Ls J w u s v m) (e : J.Is sb xb cp rp N n P S wv l a wq tq) (hN : 0 < N) :
    Calls Tryz.prog 21 #[.pointer (some ⟨cp, 0, none⟩), .int .i64 0, .int .i64 (N : Int)] w fun e w' => ∃ g cap, e = .returned (.slice (some ⟨g, 0, none⟩) N cap) ∧ N ≤ cap ∧ (∀ i x, s.hw[i]? = some x → w'.cell? ⟨g, i, none⟩ = some (.int .i64 x)) ∧ w.heap.size ≤ g ∧ Turned [] w w' := by
  obtain ⟨rfl, rfl, rfl, rfl, rfl, rfl, rfl, rfl, rfl, rfl, rfl, rfl, rfl⟩ := e
  exact ls_words h hN
/-- The law's own things. -/
theorem lx_wd (h : Ls J w u s v m) (e : J.Is sb xb cp rp N n P S wv l a wq tq) : Wd w xb cp J.bp J.bq rp J.rq N S P wv l a wq tq := by
  obtain ⟨rfl, rfl, rfl, rfl, rfl, rfl, rfl, rfl, rfl, rfl, rfl, rfl, rfl⟩ := e
  exact h.wdw
theorem lx_si (h : Ls J w u s v m) (e : J.Is sb xb cp rp N n P S wv l a wq tq) : SI P S n (words15 N) u s ∧ Fit P (live S) ∧ P.t = N ∧ N ≤ 1000 ∧ P.R ≤ 1000 := by
  obtain ⟨rfl, rfl, rfl, rfl, rfl, rfl, rfl, rfl, rfl, rfl, rfl, rfl, rfl⟩ := e
  exact ⟨h.si, h.fit, h.pt⟩
theorem lx_new (w0 w00 w : World) (xb cp cq bp bq rp rq N n k vv : Nat) (S : Nat → Nat) (P : PN) (wv l a : Value) (wq tq : Nat) (hd : Wd w00 xb cp bp bq rp rq N S P wv l a wq tq) (hm : Mem w00 cp cq (words15 N) 0) (hM : Makes S 0 N k vv P) (hs : Bl N S) (hlt : cp < xb ∧ cq < xb) (t0 : Turned [] w0 w00) (lo : 0 < w0.heap.size ∧ w0.heap.size ≤ cp ∧ w0.heap.size ≤ cq) (hN : 1 ≤ N ∧ N ≤ 1000) (hk : 1 ≤ k) (hk2 : k ≤ 65536) (hn : 0 < n ∧ n ≤ 64) (tt : Turned [] w00 w) :
    Calls Tryz.prog 12 #[.pointer (some ⟨cp, 0, none⟩), .pointer (some ⟨bp, 0, none⟩), .agg #[.int .i64 (P.f : Int), .int .i64 (P.t : Int), .int .i64 (P.k : Int), .int .i64 (P.d : Int), .int .i64 (P.e : Int), l, a, .slice (some ⟨wq, 0, none⟩) P.R P.R, .slice (some ⟨tq, 0, none⟩) P.R P.R], .int .i64 (n : Int)] w fun e w' => ∃ (J : LI) (sb : Nat) (v m : Value), e = .returned (.tuple #[.pointer (some ⟨sb, 0, none⟩), .int .i64 0]) ∧ Ls J w' zeroU (startS P S (words15 N) 0 n) v m ∧ J.Is sb xb cp rp N n P S wv l a wq tq ∧ J.w0 = w0 ∧ w.heap.size ≤ sb ∧ Turned [] w w' := by
  refine (ls_new w0 w00 w xb cp cq bp bq rp rq N n k vv S P wv l a wq tq hd hm hM hs hlt t0 lo hN hk hk2 hn tt).mono ?_
  rintro e w' ⟨I, wb, v, m, rfl, h, h1, h2⟩
  exact ⟨_, I.sb, v, m, rfl, h, ⟨rfl, rfl, rfl, rfl, rfl, rfl, rfl, rfl, rfl, rfl, rfl, rfl, rfl⟩, rfl, h1, h2⟩
/-- The document's Goal, Region, Source of the law's plan. -/
theorem lx_goal (hf : Fit P (live S)) (l a : Value) (wq tq : Nat) (r : Nat) (hr : r < P.R) (w : World) :
    Calls Tryz.prog 24 #[.agg #[.int .i64 (P.f : Int), .int .i64 (P.t : Int), .int .i64 (P.k : Int), .int .i64 (P.d : Int), .int .i64 (P.e : Int), l, a, .slice (some ⟨wq, 0, none⟩) P.R P.R, .slice (some ⟨tq, 0, none⟩) P.R P.R], .int .i64 (r : Int)] w fun e w' => e = .returned (.tuple #[.int .i64 (gF P r : Nat), .int .i64 (gT P r : Nat)]) ∧ Turned [] w w' := rgoal13 P hf.ok l a _ _ r hr w
theorem lx_region (hf : Fit P (live S)) (l a : Value) (wq tq : Nat) (x : Int) (w : World) :
    Calls Tryz.prog 18 #[.agg #[.int .i64 (P.f : Int), .int .i64 (P.t : Int), .int .i64 (P.k : Int), .int .i64 (P.d : Int), .int .i64 (P.e : Int), l, a, .slice (some ⟨wq, 0, none⟩) P.R P.R, .slice (some ⟨tq, 0, none⟩) P.R P.R], .int .i64 x] w fun e w' => e = .returned (.int .i64 (rgI P x)) ∧ Turned [] w w' := rregion13 P hf.ok l a _ _ x w
theorem lx_source (h : Ls J w u s v m) (e : J.Is sb xb cp rp N n P S wv l a wq tq) (x : Nat) (h1 : P.d ≤ x) (h2 : x < P.e) :
    Calls Tryz.prog 19 #[.agg #[.int .i64 (P.f : Int), .int .i64 (P.t : Int), .int .i64 (P.k : Int), .int .i64 (P.d : Int), .int .i64 (P.e : Int), l, a, .slice (some ⟨wq, 0, none⟩) P.R P.R, .slice (some ⟨tq, 0, none⟩) P.R P.R], .pointer (some ⟨rp, 0, none⟩), .int .i64 (x : Int)] w fun e w' => e = .returned (.int .i64 (srcN P S x : Nat)) ∧ Turned [] w w' := by
  obtain ⟨hsi, hf, ht, hN, hR⟩ := lx_si h e
  have hwd := lx_wd h e
  refine (rsource13 rp J.rq N S P hf.ok l a _ _ x w hwd.rb (by omega) hf.fd hf.dt h1 (by have := hf.e_; omega)).mono ?_
  rintro e w' ⟨s', rfl, hs, t⟩
  rw [srcN_eq hs]
  exact ⟨rfl, t⟩
end
end Go.Proofs.YtbmlggemheljkaaGreatDoor

/-
  The document's words in the end (ballastref15.Slid).
-/
namespace Go.Proofs.YtbmlggemheljkaaGreatDoor
open Go.RowKit Bt
set_option linter.unusedVariables false
set_option linter.unusedSimpArgs false

/-- Which word stands at i in the end; ahead of x they are laid. -/
noncomputable def finN (P : PN) (S : Nat → Nat) (x i : Nat) : Nat := if P.d ≤ i ∧ i < x then srcN P S i else i
noncomputable def finF (P : PN) (S : Nat → Nat) (x i : Nat) : Int := 1000 + 7 * (finN P S x i : Int)
theorem finF_step (P : PN) (S : Nat → Nat) {x : Nat} (h : P.d ≤ x) (i : Nat) : finF P S (x + 1) i = if i = x then 1000 + 7 * (srcN P S x : Int) else finF P S x i := by
  unfold finF finN
  by_cases e : i = x
  · subst e; rw [if_pos rfl, if_pos (by omega)]
  · rw [if_neg e]
    by_cases h2 : P.d ≤ i ∧ i < x
    · rw [if_pos h2, if_pos (by omega)]
    · rw [if_neg h2, if_neg (by omega)]
theorem finF_start (P : PN) (S : Nat → Nat) (i : Nat) : finF P S P.d i = 1000 + 7 * (i : Int) := by
  unfold finF finN
  rw [if_neg (by omega)]
/-- A slider's words in the end. -/
theorem end_words {P : PN} {S : Nat → Nat} {n N : Nat} {u : Nat → Nat} {s : SlS} (h : SI P S n (words15 N) u s) (hf : Fit P (live S)) (ht : P.t = N) (hl : s.left = 0) {i : Nat} (hi : i < N) : s.hw[i]? = some (finF P S P.e i) := by
  obtain ⟨h1, _⟩ := h.end_ hf hl
  have het := hf.et
  rw [h.hw i]
  unfold finF finN
  by_cases hh : P.d ≤ i ∧ i < P.e
  · rw [if_pos ((h1 i).2 hh), if_pos hh, words15_at]
    have := (hf.srcs hh.1 hh.2).2.1
    omega
  · rw [if_neg (fun hs => hh ((h1 i).1 hs)), if_neg hh, words15_at hi]

theorem ri_own2 {w : World} {B : Nat} {v : Value} {N : Nat} (hN : 1 ≤ N) (h : w.ownsRow B 2 1 v N ((words15 N).map (Value.int .i64))) : ∃ g cap, v = .slice (some ⟨g, 0, none⟩) N cap ∧ B ≤ g ∧ Ri w 2 g N (fun i => 1000 + 7 * (i : Int)) := by
  rcases h.2 with ⟨_, h0⟩ | ⟨g, cap, cur, hv, hg, hh, hc, _, hsz, ht⟩
  · omega
  · refine ⟨g, cap, hv, hg, cur, hh, fun i hi => ?_⟩
    have h1 : ((words15 N).map (Value.int .i64))[i]? = some (.int .i64 (1000 + 7 * (i : Int))) := by rw [List.getElem?_map, words15_at hi]; rfl
    rw [← ht, List.getElem?_take] at h1
    split at h1
    · simpa using h1
    · cases h1

set_option maxHeartbeats 4000000 in
set_option maxRecDepth 100000 in
theorem rslid15 (P : PN) (S : Nat → Nat) (N gw gcap rp rq : Nat) (l a : Value) (wq tq : Nat) (w : World) (hf : Fit P (live S)) (ht : P.t = N) (hN : 1 ≤ N ∧ N ≤ 1000) (hb : RB w rp rq N S) (hw : ∀ j x, (words15 N)[j]? = some x → w.cell? ⟨gw, 0 + j, none⟩ = some (.int .i64 x)) (hla : ∃ lo lc ho hc, l = .slice lo P.R lc ∧ a = .slice ho P.R hc) :
    Calls Tryz.prog 20 #[.slice (some ⟨gw, 0, none⟩) N gcap, .pointer (some ⟨rp, 0, none⟩), .agg #[.int .i64 (P.f : Int), .int .i64 (P.t : Int), .int .i64 (P.k : Int), .int .i64 (P.d : Int), .int .i64 (P.e : Int), l, a, .slice (some ⟨wq, 0, none⟩) P.R P.R, .slice (some ⟨tq, 0, none⟩) P.R P.R]] w fun e w' => ∃ g cap, e = .returned (.slice (some ⟨g, 0, none⟩) N cap) ∧ Ri w' 2 g N (finF P S P.e) ∧ w.heap.size ≤ g ∧ Turned [] w w' := by
  obtain ⟨lo, lc, ho, hc, rfl, rfl⟩ := hla
  have hfd := hf.fd
  have hdt := hf.dt
  have hde : P.d ≤ P.e := by have := hf.e_; omega
  have het := hf.et
  obtain ⟨w0, hw0⟩ : ∃ w0, w0 = w.alloc (.cells #[.int .i64 (P.f : Int), .int .i64 (P.t : Int), .int .i64 (P.k : Int), .int .i64 (P.d : Int), .int .i64 (P.e : Int), .slice lo P.R lc, .slice ho P.R hc, .slice (some ⟨wq, 0, none⟩) P.R P.R, .slice (some ⟨tq, 0, none⟩) P.R P.R] 39) := ⟨_, rfl⟩
  have t0 : Turned [] w w0 := by rw [hw0]; exact (Turned.refl [] w).alloc _
  have hp0 : w0.heap[w.heap.size]? = some (.cells #[.int .i64 (P.f : Int), .int .i64 (P.t : Int), .int .i64 (P.k : Int), .int .i64 (P.d : Int), .int .i64 (P.e : Int), .slice lo P.R lc, .slice ho P.R hc, .slice (some ⟨wq, 0, none⟩) P.R P.R, .slice (some ⟨tq, 0, none⟩) P.R P.R] 39) := by rw [hw0]; exact heap_alloc_new _ _
  have hs0 : w0.heap.size = w.heap.size + 1 := by rw [hw0]; simp
  obtain ⟨i0, hi, hi0⟩ := Option.map_eq_some_iff.1 Tryz.info2
  simp only [Prod.mk.injEq] at hi0
  obtain ⟨hz0, hz1, hz2⟩ := hi0
  have HO : Hid (w0.ownsRow w0.heap.size 2 1 (.slice none 0 0) 0 []) := hide ⟨rfl, .inl ⟨rfl, rfl⟩⟩
  have HSrc : Hid (∀ j u, ((words15 N).map (Value.int .i64))[j]? = some u → w0.cell? ((⟨gw, 0, none⟩ : Addr).add j) = some u) := hide (fun j u hu => by
    rw [List.getElem?_map] at hu
    obtain ⟨x, hx, rfl⟩ := Option.map_eq_some_iff.1 hu
    rw [Addr.add_lit, t0.cell (block_lt (hw j x hx)) (by simp)]
    exact hw j x hx)
  have HCell : Hid (∀ i, i < N → w.cell? ⟨gw, i, none⟩ = some (.int .i64 (1000 + 7 * (i : Int)))) := hide (fun i hi => by have := hw i _ (words15_at hi); rwa [Nat.zero_add] at this)
  have HB := hide hb
  have HF := hide hf
  have HI := hide (And.intro hi (And.intro hz0 (And.intro hz1 hz2)))
  have HT0 := hide t0
  have HP0 := hide hp0
  have HS0 := hide hs0
  have HLn : Hid (((words15 N).map (Value.int .i64)).length = N * 1) := hide (by simp [words15_len])
  have hN1 := hN.1
  have hN2 := hN.2
  obtain ⟨pb, hpb⟩ : ∃ pb, pb = w.heap.size := ⟨_, rfl⟩
  rw [← hpb] at HP0
  have HPb := hide hpb
  have HPt := hide ht
  have hdN : P.e ≤ N := by omega
  clear hb hw hf hi hz0 hz1 hz2 t0 hp0 hs0 ht hdt het hfd
  go_enter Tryz.func20, Tryz.ntmps20
  go_upto_region 1 with fail
  rw [← hw0, ← hpb]
  clear hw0 hpb
  go_upto_region 3 with (at_builtin; (refine wpList_append_own _ rfl _ _ 35 rfl w0.heap.size 2 i0 _ 1 8 Tryz.underlying35 HI.out.1 HI.out.2.1 HI.out.2.2.1 HI.out.2.2.2 rfl (by decide) _ _ _ rfl HO.out ⟨gw, 0, none⟩ N gcap ((words15 N).map (Value.int .i64)) rfl HLn.out HSrc.out (ints_oneCell .i64 _) (by unfold maxLen; omega) (by omega) (Nat.le_refl _) ?_); intro v3 w3 ho3 hg3 hnil3; obtain ⟨vo, vc, rfl⟩ := own_opens ho3; have HO3 := hide ho3; have HG3 := hide hg3; clear ho3 hg3 hnil3)
  have ho3 := HO3.out
  simp only [Nat.zero_add, List.nil_append] at ho3
  obtain ⟨g, cap, e3, hgB, hri⟩ := ri_own2 hN1 ho3
  simp only [Nat.zero_add, Value.slice.injEq] at e3
  obtain ⟨rfl, -, rfl⟩ := e3
  have HR3 : Hid (Ri w3 2 g N (finF P S P.d)) := hide (hri.congr (fun i _ => (finF_start P S i).symm))
  have HT3 : Hid (Turned [] w w3) := hide (HT0.out.grown HG3.out (fun k hk => by cases hk))
  have HU3 : Hid (Turned [] w0 w3) := hide ((Turned.refl [] w0).grown HG3.out (fun k hk => by cases hk))
  have HGe : Hid (w.heap.size < g) := hide (by have := HS0.out; omega)
  clear ho3 hgB hri HO3 HG3 HO HSrc HLn HI HS0
  have HP3 : Hid (w3.heap[pb]? = some (.cells #[.int .i64 (P.f : Int), .int .i64 (P.t : Int), .int .i64 (P.k : Int), .int .i64 (P.d : Int), .int .i64 (P.e : Int), .slice lo P.R lc, .slice ho P.R hc, .slice (some ⟨wq, 0, none⟩) P.R P.R, .slice (some ⟨tq, 0, none⟩) P.R P.R] 39)) := hide (by rw [HU3.out.block pb (lt_of_heap HP0.out) (by simp)]; exact HP0.out)
  have c3 : w3.cell? ⟨pb, 3, none⟩ = some (.int .i64 (P.d : Int)) := by rw [cell_of_heap HP3.out]; rfl
  go_wp2_with fail
  clear c3
  go_loopg [8] (P.e - P.d) (fun gg s8 wr => ∃ (j : Nat), gg = P.e - P.d - j ∧ j ≤ P.e - P.d ∧ s8 = .int .i64 ((P.d + j : Nat) : Int) ∧ Hid (Ri wr 2 g N (finF P S (P.d + j))) ∧ Hid (Turned [] w wr) ∧ Hid (wr.heap[pb]? = some (.cells #[.int .i64 (P.f : Int), .int .i64 (P.t : Int), .int .i64 (P.k : Int), .int .i64 (P.d : Int), .int .i64 (P.e : Int), .slice lo P.R lc, .slice ho P.R hc, .slice (some ⟨wq, 0, none⟩) P.R P.R, .slice (some ⟨tq, 0, none⟩) P.R P.R] 39)))
  case atStart => exact ⟨0, rfl, Nat.zero_le _, rfl, HR3, HT3, HP3⟩
  case round =>
    clear HR3 HT3 HP3 HU3
    obtain ⟨j, rfl, hj, rfl, HR, HT, HP⟩ := hrel
    obtain ⟨w4, hw4⟩ : ∃ w4, w4 = wr := ⟨_, rfl⟩
    subst hw4
    have hN6 : N ≤ 1000 := hN2
    obtain ⟨at_, hat⟩ : ∃ x, x = P.d + j := ⟨_, rfl⟩
    rw [← hat] at HR ⊢
    have HAt := hide hat
    have hdA : P.d ≤ at_ := by omega
    clear hat
    have x0 : w4.cell? ⟨pb, 0, none⟩ = some (.int .i64 (P.f : Int)) := by rw [cell_of_heap HP.out]; rfl
    have x1 : w4.cell? ⟨pb, 1, none⟩ = some (.int .i64 (P.t : Int)) := by rw [cell_of_heap HP.out]; rfl
    have x2 : w4.cell? ⟨pb, 2, none⟩ = some (.int .i64 (P.k : Int)) := by rw [cell_of_heap HP.out]; rfl
    have x3 : w4.cell? ⟨pb, 3, none⟩ = some (.int .i64 (P.d : Int)) := by rw [cell_of_heap HP.out]; rfl
    have x4 : w4.cell? ⟨pb, 4, none⟩ = some (.int .i64 (P.e : Int)) := by rw [cell_of_heap HP.out]; rfl
    have x5 : w4.cell? ⟨pb, 5, none⟩ = some (.slice lo P.R lc) := by rw [cell_of_heap HP.out]; rfl
    have x6 : w4.cell? ⟨pb, 6, none⟩ = some (.slice ho P.R hc) := by rw [cell_of_heap HP.out]; rfl
    have x7 : w4.cell? ⟨pb, 7, none⟩ = some (.slice (some ⟨wq, 0, none⟩) P.R P.R) := by rw [cell_of_heap HP.out]; rfl
    have x8 : w4.cell? ⟨pb, 8, none⟩ = some (.slice (some ⟨tq, 0, none⟩) P.R P.R) := by rw [cell_of_heap HP.out]; rfl
    by_cases hlt : at_ < P.e
    · have hai : (at_ : Int) < (P.e : Int) := by omega
      have haN : (at_ : Int) < (N : Int) := by omega
      have ha1 : at_ < N := by omega
      have HSo : Hid (Calls Tryz.prog 19 #[.agg #[.int .i64 (P.f : Int), .int .i64 (P.t : Int), .int .i64 (P.k : Int), .int .i64 (P.d : Int), .int .i64 (P.e : Int), .slice lo P.R lc, .slice ho P.R hc, .slice (some ⟨wq, 0, none⟩) P.R P.R, .slice (some ⟨tq, 0, none⟩) P.R P.R], .pointer (some ⟨rp, 0, none⟩), .int .i64 (at_ : Int)] w4 fun e w' => ∃ s : Nat, e = .returned (.int .i64 (s : Int)) ∧ SrcOf P S at_ s ∧ Turned [] w4 w') := hide (rsource13 rp rq N S P HF.out.ok _ _ _ _ at_ w4 (HB.out.turned0 HT.out) (by have := HPt.out; omega) HF.out.fd HF.out.dt hdA (by have := HF.out.e_; omega))
      have HSt := hide (finF_step P S (x := at_) hdA)
      have hj1 : j + 1 ≤ P.e - P.d := by have := HAt.out; omega
      clear hlt
      go_wp2_with fail
      refine (HSo.out).mono ?_
      rintro e w5 ⟨s, rfl, hs, t5⟩
      have hsN : s < N := by have := hs.2.1; have := HPt.out; omega
      have hsi : (s : Int) < (N : Int) := by omega
      have HSr := hide (srcN_eq hs)
      have cs : w5.cell? ⟨gw, s, none⟩ = some (.int .i64 (1000 + 7 * (s : Int))) := by
        have h9 := HCell.out s hsN
        rw [(HT.out.trans t5).cell (block_lt h9) (by simp)]; exact h9
      have HR5 := hide (HR.out.turned0 t5)
      have HP5 : Hid (w5.heap[pb]? = some (.cells #[.int .i64 (P.f : Int), .int .i64 (P.t : Int), .int .i64 (P.k : Int), .int .i64 (P.d : Int), .int .i64 (P.e : Int), .slice lo P.R lc, .slice ho P.R hc, .slice (some ⟨wq, 0, none⟩) P.R P.R, .slice (some ⟨tq, 0, none⟩) P.R P.R] 39)) := hide (by rw [t5.block pb (lt_of_heap HP.out) (by simp)]; exact HP.out)
      have HT5 := hide (HT.out.trans t5)
      have cg := HR5.out.cell ha1
      have fg := HR5.out.fz at_
      have lg := HR5.out.lt
      clear hs t5 HSo HR HP HT x0 x1 x2 x3 x4 x5 x6 x7 x8 hsN
      go_wp2_with fail
      have HR6 : Hid (Ri (w5.setCell ⟨g, at_, none⟩ (.int .i64 (1000 + 7 * (s : Int)))) 2 g N (finF P S (at_ + 1))) := hide ((HR5.out.set at_ (1000 + 7 * (s : Int))).congr (fun i _ => by rw [HSt.out i, HSr.out]))
      have HT6 := hide (HT5.out.setCell (p := ⟨g, at_, none⟩) (.inr (show w.heap.size ≤ g from Nat.le_of_lt HGe.out)) (.int .i64 (1000 + 7 * (s : Int))))
      have HP6 : Hid ((w5.setCell ⟨g, at_, none⟩ (.int .i64 (1000 + 7 * (s : Int)))).heap[pb]? = some (.cells #[.int .i64 (P.f : Int), .int .i64 (P.t : Int), .int .i64 (P.k : Int), .int .i64 (P.d : Int), .int .i64 (P.e : Int), .slice lo P.R lc, .slice ho P.R hc, .slice (some ⟨wq, 0, none⟩) P.R P.R, .slice (some ⟨tq, 0, none⟩) P.R P.R] 39)) := hide (by
        rw [((Turned.refl [g] w5).setCell (p := ⟨g, at_, none⟩) (.inl (by simp)) (.int .i64 (1000 + 7 * (s : Int)))).block pb (lt_of_heap HP5.out) (by have := HGe.out; have := HPb.out; simp; omega)]; exact HP5.out)
      go_roundg (P.e - P.d - (j + 1))
      case measure => have := HAt.out; omega
      case rel => exact ⟨j + 1, rfl, hj1, by rw [← Nat.add_assoc, ← HAt.out]; go_num, by rw [← Nat.add_assoc, ← HAt.out]; exact HR6, HT6, HP6⟩
    · have hai : ¬ (at_ : Int) < (P.e : Int) := by omega
      have hae : Hid (at_ = P.e) := hide (by have := HAt.out; omega)
      clear hlt hdA
      go_wp2_with fail
      go_ret
      first
        | exact ⟨g, vc, rfl, by rw [← hae.out]; exact HR.out, Nat.le_of_lt HGe.out, HT.out⟩
        | exact ⟨g, ⟨vc, rfl⟩, by rw [← hae.out]; exact HR.out, Nat.le_of_lt HGe.out, HT.out⟩
end Go.Proofs.YtbmlggemheljkaaGreatDoor

/-
  More of a slider through a law: what lies elsewhere stays, a step at the end, by turns.
-/
namespace Go.Proofs.YtbmlggemheljkaaGreatDoor
open Go.RowKit Bt
set_option linter.unusedVariables false
set_option linter.unusedSimpArgs false

section
variable {J : LI} {w w' : World} {u : Nat → Nat} {s : SlS} {v m : Value} {sb xb cp rp N n wq tq : Nat} {P : PN} {S : Nat → Nat} {wv l a : Value}
theorem Ls.keep (h : Ls J w u s v m) {x : Nat} {c : Array Value} {T : TypeId} (hx : J.w00.heap[x]? = some (.cells c T)) (h1 : T ≠ 90) (h2 : T ≠ 2) : w.heap[x]? = some (.cells c T) :=
  keep_ty h.all hx (by
    intro i hi
    simp at hi
    rcases hi with rfl | rfl
    · exact ⟨_, _, _, h.mem.head, fun e => h1 e.symm⟩
    · exact ⟨_, _, _, h.mem.row, fun e => h2 e.symm⟩)
/-- Behind the end a step is nothing. -/
theorem lx_step_end (h : Ls J w u s v m) (e : J.Is sb xb cp rp N n P S wv l a wq tq) (hl : s.left = 0) (k : Int) :
    Calls Tryz.prog 16 #[.pointer (some ⟨sb, 0, none⟩), .int .i64 k] w fun e w' => e = .returned (.int .i64 2) ∧ w' = w := by
  have HD := hide (lx_done h e)
  rw [decide_eq_true hl] at HD
  clear h e hl
  go_enter Tryz.func16, Tryz.ntmps16
  go_wp2_with fail
  refine (HD.out).mono ?_
  rintro e w1 ⟨rfl, hw1⟩
  subst hw1
  clear HD
  go_wp2_with fail
  go_ret
  exact ⟨rfl, rfl⟩
theorem lx_ready_end (h : Ls J w u s v m) (e : J.Is sb xb cp rp N n P S wv l a wq tq) (hl : s.left = 0) :
    Calls Tryz.prog 22 #[.pointer (some ⟨sb, 0, none⟩)] w fun e w' => e = .returned (.slice none 0 0) ∧ w' = w := by
  obtain ⟨rfl, rfl, rfl, rfl, rfl, rfl, rfl, rfl, rfl, rfl, rfl, rfl, rfl⟩ := e
  exact sready_end J.wb w J.I J.P J.S s v m h.sl hl
theorem lx_new2 (w0 w00 w : World) (xb cp cq bp bq rp rq N n k vv : Nat) (S : Nat → Nat) (P : PN) (wv l a : Value) (wq tq : Nat) (hd : Wd w00 xb cp bp bq rp rq N S P wv l a wq tq) (hm : Mem w00 cp cq (words15 N) 0) (hM : Makes S 0 N k vv P) (hs : Bl N S) (hlt : cp < xb ∧ cq < xb) (t0 : Turned [] w0 w00) (lo : 0 < w0.heap.size ∧ w0.heap.size ≤ cp ∧ w0.heap.size ≤ cq) (hN : 1 ≤ N ∧ N ≤ 1000) (hk : 1 ≤ k) (hk2 : k ≤ 65536) (hn : 0 < n ∧ n ≤ 64) (tt : Turned [] w00 w) :
    Calls Tryz.prog 12 #[.pointer (some ⟨cp, 0, none⟩), .pointer (some ⟨bp, 0, none⟩), .agg #[.int .i64 (P.f : Int), .int .i64 (P.t : Int), .int .i64 (P.k : Int), .int .i64 (P.d : Int), .int .i64 (P.e : Int), l, a, .slice (some ⟨wq, 0, none⟩) P.R P.R, .slice (some ⟨tq, 0, none⟩) P.R P.R], .int .i64 (n : Int)] w fun e w' => ∃ (J : LI) (sb : Nat) (v m : Value), e = .returned (.tuple #[.pointer (some ⟨sb, 0, none⟩), .int .i64 0]) ∧ Ls J w' zeroU (startS P S (words15 N) 0 n) v m ∧ J.Is sb xb cp rp N n P S wv l a wq tq ∧ J.w0 = w0 ∧ J.w00 = w00 ∧ w.heap.size ≤ sb ∧ Turned [] w w' := by
  refine (ls_new w0 w00 w xb cp cq bp bq rp rq N n k vv S P wv l a wq tq hd hm hM hs hlt t0 lo hN hk hk2 hn tt).mono ?_
  rintro e w' ⟨I, wb, v, m, rfl, h, h1, h2⟩
  exact ⟨_, I.sb, v, m, rfl, h, ⟨rfl, rfl, rfl, rfl, rfl, rfl, rfl, rfl, rfl, rfl, rfl, rfl, rfl⟩, rfl, rfl, h1, h2⟩
end
section
variable {P : PN} {S : Nat → Nat} {n : Nat} {hw0 : List Int} {u u' : Nat → Nat} {s s' : SlS}
/-- By turns, from a step on. -/
theorem tl_next (A K : Nat) (h' : SI P S n hw0 u' s') (h : SI P S n hw0 u s) (hf : Fit P (live S)) (hn : 0 < n) {i k : Nat} (h1 : A ≤ i → Tl P n u s i K) (hl : s.left ≠ 0) (hk : A ≤ i → k = i % n) (f1 : Acts s k → remU P u' + 1 = remU P u) (f2 : ¬ Acts s k → u' = u ∧ s' = s) (hB : remU P u' * n + n + A ≤ K + 1) : A ≤ i + 1 → Tl P n u' s' (i + 1) K := by
  intro hA
  by_cases hi : A ≤ i
  · rw [hk hi] at f1 f2
    exact Tl.step h hf hn (h1 hi) hl h' f1 f2
  · have : i + 1 = A := by omega
    rw [this]
    exact Tl.start h' hf hn hB
theorem tl_le {A K i : Nat} (h : A ≤ i → Tl P n u s i K) (hl : s.left ≠ 0) (hA : A ≤ K + 1) : i ≤ K := by
  by_cases hi : A ≤ i
  · rcases h hi with h | ⟨d, _, _, h⟩
    · exact absurd h hl
    · omega
  · omega
theorem rem_le (h : SI P S n hw0 u s) (hf : Fit P (live S)) (ht : P.t ≤ 150) : remU P u ≤ 450 := by
  have h1 := sm_full hf
  have h2 : goalN P ≤ P.R := cnt_le _ _
  have h3 : P.R ≤ P.t := by
    unfold PN.R
    split
    · have := Nat.div_le_self (P.t - P.f - 1) P.k; omega
    · omega
  have h4 := hf.et
  unfold remU
  omega
theorem rem_mul {r n : Nat} (h : r ≤ 450) (hn : n ≤ 6) : r * n + n ≤ 2706 := by
  have := Nat.mul_le_mul h hn
  omega
/-- What a step has done to the moves. -/
theorem Did.len (h : Did P S u s s') : s'.mv.length = s.mv.length ∨ s'.mv.length = s.mv.length + 1 := by
  rcases h.mv with e | ⟨b, e, _⟩
  · left; rw [e]
  · right; rw [e, List.length_append]; rfl
theorem Did.acc (h : Did P S u s s') {i : Int} (h0 : 0 ≤ s.ac) (h1 : s.ac ≤ i) (h2 : i ≤ 1000000) : 0 ≤ s'.ac ∧ s'.ac ≤ i + 1 ∧ s'.ac ≤ s.ac + 1 := by
  rcases h.ac with e | e
  · rw [e]; omega
  · rw [e]
    have : wrap64 (s.ac + 1) = s.ac + 1 := by unfold wrap64; omega
    rw [this]; omega
end
end Go.Proofs.YtbmlggemheljkaaGreatDoor

/-
  The law's table (ballastlaw15.takes): of each region which ones it takes words out of.
-/
namespace Go.Proofs.YtbmlggemheljkaaGreatDoor
open Go.RowKit Bt
set_option linter.unusedVariables false
set_option linter.unusedSimpArgs false

theorem Tryz.infoBools : (Tryz.prog.info? 55).map (fun i => (i.zero, i.size, i.bytes)) = some (some (.slice none 0 0), 1, 24) := by kernel_rfl
theorem Rb.grown {w w' : World} {B : Nat} {e : TypeId} {size n : Nat} {v : Value} {xs : List Value} {q m : Nat} {g : Nat → Bool} (h : Rb w q m g) (ho : w.ownsRow B e size v n xs) (he : e ≠ 4) (hg : w.grownBy w' v.ownBlock) : Rb w' q m g := by
  cases hv : v.ownBlock with
  | none => exact h.turned0 ((Turned.refl [] w).grown hg (fun k hk => by rw [hv] at hk; cases hk))
  | some k =>
    refine h.turned ((Turned.refl [k] w).grown hg (fun k2 hk => by rw [hv] at hk; cases hk; exact .inl (by simp))) ?_
    obtain ⟨_, _, c2, hc2⟩ := ownsRow_lt ho k hv
    obtain ⟨c, hc, _⟩ := h
    have := ne_of_type hc hc2 (fun e2 => he e2.symm)
    simpa using this
def rowsV (lf : Nat → Nat) (R j : Nat) : List Value := (List.range j).map fun r => .slice (some ⟨lf r, 0, none⟩) R R
theorem rowsV_next (lf : Nat → Nat) (R j b : Nat) : rowsV (fun i => if i = j then b else lf i) R (j + 1) = rowsV lf R j ++ [.slice (some ⟨b, 0, none⟩) R R] := by
  unfold rowsV
  rw [List.range_succ, List.map_append]
  congr 1
  · refine List.map_congr_left fun r hr => ?_
    have := List.mem_range.1 hr
    show Value.slice (some ⟨if r = j then b else lf r, 0, none⟩) R R = _
    rw [if_neg (by omega)]
  · simp
/-- The table, as it can be read. -/
structure Tbl (w : World) (ao : Option Addr) (R : Nat) (T : Nat → Nat → Bool) : Prop where
  row : ∃ lf : Nat → Nat, (∀ r, r < R → ∃ (o : Nat) (c : Array Value), ao = some ⟨o, 0, none⟩ ∧ w.heap[o]? = some (.cells c 55) ∧ c[r]? = some (.slice (some ⟨lf r, 0, none⟩) R R)) ∧ ∀ r, r < R → Rb w (lf r) R (T r)
theorem Tbl.keep {w w' : World} {ao : Option Addr} {R : Nat} {T : Nat → Nat → Bool} (h : Tbl w ao R T) (hk : ∀ (x : Nat) (c : Array Value) (e : TypeId), e = 55 ∨ e = 4 → w.heap[x]? = some (.cells c e) → w'.heap[x]? = some (.cells c e)) : Tbl w' ao R T := by
  obtain ⟨lf, h1, h2⟩ := h.row
  refine ⟨lf, fun r hr => ?_, fun r hr => ?_⟩
  · obtain ⟨o, c, e, hh, hc⟩ := h1 r hr
    exact ⟨o, c, e, hk _ _ _ (.inl rfl) hh, hc⟩
  · obtain ⟨c, hh, hc⟩ := h2 r hr
    exact ⟨c, hk _ _ _ (.inr rfl) hh, hc⟩
theorem Tbl.turned0 {w w' : World} {ao : Option Addr} {R : Nat} {T : Nat → Nat → Bool} (h : Tbl w ao R T) (t : Turned [] w w') : Tbl w' ao R T := h.keep fun x c e _ hx => keep_ty t hx (by simp)
theorem Tbl.cell {w : World} {ao : Option Addr} {R : Nat} {T : Nat → Nat → Bool} (h : Tbl w ao R T) {r : Nat} (hr : r < R) : ∃ o b : Nat, ao = some ⟨o, 0, none⟩ ∧ w.cell? ⟨o, r, none⟩ = some (.slice (some ⟨b, 0, none⟩) R R) ∧ Rb w b R (T r) := by
  obtain ⟨lf, h1, h2⟩ := h.row
  obtain ⟨o, c, e, hh, hc⟩ := h1 r hr
  exact ⟨o, lf r, e, by rw [cell_of_heap hh, hc], h2 r hr⟩
theorem own_tbl {w : World} {B : Nat} {v : Value} {R : Nat} {lf : Nat → Nat} {T : Nat → Nat → Bool} (h : w.ownsRow B 55 1 v R (rowsV lf R R)) (hb : ∀ r, r < R → Rb w (lf r) R (T r)) : ∃ ao cap, v = .slice ao R cap ∧ Tbl w ao R T := by
  rcases h.2 with ⟨hv, h0⟩ | ⟨g, cap, cur, hv, hg, hh, hc, _, hsz, ht⟩
  · exact ⟨none, 0, by rw [h0]; exact hv, ⟨lf, fun r hr => by omega, hb⟩⟩
  · refine ⟨some ⟨g, 0, none⟩, cap, hv, ⟨lf, fun r hr => ⟨g, cur, rfl, hh, ?_⟩, hb⟩⟩
    have h1 : (rowsV lf R R)[r]? = some (.slice (some ⟨lf r, 0, none⟩) R R) := by unfold rowsV; simp [hr]
    rw [← ht, List.getElem?_take] at h1
    split at h1
    · simpa using h1
    · cases h1

theorem tk_source15 (rp rq N : Nat) (P : PN) (S : Nat → Nat) (hF : Fit P (live S)) (l a wt tk : Value) (i x : Nat) (w : World) (hb : RB w rp rq N S) (ht : P.t = N) (hi : i < P.R) (h1 : gF P i ≤ x) (h2 : x < gT P i) :
    Calls Tryz.prog 19 #[.agg #[.int .i64 (P.f : Int), .int .i64 (P.t : Int), .int .i64 (P.k : Int), .int .i64 (P.d : Int), .int .i64 (P.e : Int), l, a, wt, tk], .pointer (some ⟨rp, 0, none⟩), .int .i64 (x : Int)] w fun e w' => ∃ s : Nat, e = .returned (.int .i64 (s : Int)) ∧ ((P.f ≤ s ∧ s < P.t) ∧ P.reg s < P.R ∧ ∀ q, q < P.R → tkU P (live S) i (x + 1) q = if q = P.reg s then true else tkU P (live S) i x q) ∧ Turned [] w w' := by
  obtain ⟨g1, g2, g3, g4⟩ := hF.goal (i := i) (by omega)
  have h7 := hF.et
  have h8 := hF.fd
  refine (rsource13 rp rq N S P hF.ok l a wt tk x w hb (by omega) hF.fd hF.dt (by omega) (by have := hF.e_; omega)).mono ?_
  rintro e w' ⟨s, rfl, hs, t⟩
  obtain ⟨a2, a3, a4, a5⟩ := hs
  obtain ⟨b1, b2, b3, b4⟩ := hF.src hi h1 h2 a2 a3 a4 a5
  exact ⟨s, rfl, ⟨⟨by omega, a3⟩, b1, fun q hq => hF.tkU_step b1 h1 b2 b3 hq⟩, t⟩
theorem tk_region15 (P : PN) (h : P.Ok) (l a wt tk : Value) (s : Nat) (hs : P.f ≤ s ∧ s < P.t) (w : World) :
    Calls Tryz.prog 18 #[.agg #[.int .i64 (P.f : Int), .int .i64 (P.t : Int), .int .i64 (P.k : Int), .int .i64 (P.d : Int), .int .i64 (P.e : Int), l, a, wt, tk], .int .i64 (s : Int)] w fun e w' => e = .returned (.int .i64 (P.reg s : Nat)) ∧ Turned [] w w' := by
  have H := rregion13 P h l a wt tk (s : Int) w
  rw [show rgI P (s : Int) = ((P.reg s : Nat) : Int) by unfold rgI; rw [if_pos (by omega)]; simp] at H
  exact H

set_option maxHeartbeats 8000000 in
set_option maxRecDepth 100000 in
theorem rtakes15 (P : PN) (S : Nat → Nat) (N xb cp bp bq rp rq : Nat) (wv : Value) (lo : Option Addr) (lc : Nat) (ho : Option Addr) (hc wq tq : Nat) (w : World) (hd : Wd w xb cp bp bq rp rq N S P wv (.slice lo P.R lc) (.slice ho P.R hc) wq tq) (hf : Fit P (live S)) (ht : P.t = N) (hN : N ≤ 1000) (hR : P.R ≤ 1000) :
    Calls Tryz.prog 23 #[.pointer (some ⟨xb, 0, none⟩)] w fun e w' => ∃ ao cap, e = .returned (.slice ao P.R cap) ∧ Tbl w' ao P.R (tkB P (live S)) ∧ Turned [] w w' := by
  obtain ⟨i0, hi, hi0⟩ := Option.map_eq_some_iff.1 Tryz.infoBools
  simp only [Prod.mk.injEq] at hi0
  obtain ⟨hz0, hz1, hz2⟩ := hi0
  have HI := hide (And.intro hi (And.intro hz0 (And.intro hz1 hz2)))
  have HHd := hide (fun (wr : World) (t : Turned [] w wr) => keep_ty t hd.head (by simp))
  have HGo := hide (fun (w' : World) (r : Nat) (hr : r < P.R) => rgoal13 P hf.ok (.slice lo P.R lc) (.slice ho P.R hc) (slc wq P.R) (slc tq P.R) r hr w')
  have HSo := hide (fun (w' : World) (i x : Nat) (t : Turned [] w w') (hi : i < P.R) (h1 : gF P i ≤ x) (h2 : x < gT P i) => tk_source15 rp rq N P S hf (.slice lo P.R lc) (.slice ho P.R hc) (slc wq P.R) (slc tq P.R) i x w' (hd.rb.turned0 t) ht hi h1 h2)
  have HRg := hide (fun (w' : World) (s : Nat) (hs : P.f ≤ s ∧ s < P.t) => tk_region15 P hf.ok (.slice lo P.R lc) (.slice ho P.R hc) (slc wq P.R) (slc tq P.R) s hs w')
  have HUs : Hid (∀ i q, tkU P (live S) i (gF P i) q = false) := hide (fun i q => tkU_start i q)
  have HUe : Hid (∀ i q, i < P.R → q < P.R → gF P i < gT P i → tkU P (live S) i (gT P i) q = tkB P (live S) i q) := hide (fun i q h1 h2 h3 => hf.tkU_end h1 h2 h3)
  have HUn : Hid (∀ i q, i < P.R → q < P.R → ¬ gF P i < gT P i → tkB P (live S) i q = false) := hide (fun i q h1 h2 h3 => by
    cases hh : tkB P (live S) i q
    · rfl
    · exact absurd (hf.tk_goal h2 h1 hh) h3)
  have HGb : Hid (∀ i, gT P i ≤ 1000) := hide (fun i => by unfold gT; have := PN.ed_le P (i + 1); split <;> omega)
  have hmb := make_bools P.R (by omega)
  have hsl : ∀ q, slc q P.R = .slice (some ⟨q, 0, none⟩) P.R P.R := fun q => rfl
  have HB0 := hide (show 0 + w.heap.size ≤ w.heap.size by omega)
  clear hi hz0 hz1 hz2 hd hf ht hN
  unfold wdC at HHd
  simp only [hsl] at HHd HGo HSo HRg
  clear hsl
  generalize hRR : P.R = R at *
  generalize gF P = G1 at *
  generalize gT P = G2 at *
  generalize tkB P (live S) = T at *
  generalize tkU P (live S) = U at *
  clear hRR
  obtain ⟨B, hB⟩ : ∃ B, B = w.heap.size := ⟨_, rfl⟩
  have HB := hide hB
  clear hB HB0
  have HO0 : Hid (w.ownsRow B 55 1 (.slice none 0 0) 0 (rowsV (fun _ => 0) R 0)) := hide ⟨rfl, .inl ⟨rfl, rfl⟩⟩
  have hh := HHd.out w (Turned.refl [] w)
  have c3 : w.cell? ⟨xb, 3, none⟩ = some (.pointer (some ⟨rp, 0, none⟩)) := by rw [cell_of_heap hh]; rfl
  have c4 : w.cell? ⟨xb, 4, none⟩ = some (.int .i64 (P.f : Int)) := by rw [cell_of_heap hh]; rfl
  have c5 : w.cell? ⟨xb, 5, none⟩ = some (.int .i64 (P.t : Int)) := by rw [cell_of_heap hh]; rfl
  have c6 : w.cell? ⟨xb, 6, none⟩ = some (.int .i64 (P.k : Int)) := by rw [cell_of_heap hh]; rfl
  have c7 : w.cell? ⟨xb, 7, none⟩ = some (.int .i64 (P.d : Int)) := by rw [cell_of_heap hh]; rfl
  have c8 : w.cell? ⟨xb, 8, none⟩ = some (.int .i64 (P.e : Int)) := by rw [cell_of_heap hh]; rfl
  have c9 : w.cell? ⟨xb, 9, none⟩ = some (.slice lo R lc) := by rw [cell_of_heap hh]; rfl
  have c10 : w.cell? ⟨xb, 10, none⟩ = some (.slice ho R hc) := by rw [cell_of_heap hh]; rfl
  have c11 : w.cell? ⟨xb, 11, none⟩ = some (.slice (some ⟨wq, 0, none⟩) R R) := by rw [cell_of_heap hh]; rfl
  have c12 : w.cell? ⟨xb, 12, none⟩ = some (.slice (some ⟨tq, 0, none⟩) R R) := by rw [cell_of_heap hh]; rfl
  clear hh
  go_enter Tryz.func23, Tryz.ntmps23
  go_wp2_with fail
  clear c3 c4 c5 c6 c7 c8 c9 c10 c11 c12
  go_loopg [4, 5] 1100 (fun gg s4 s5 wr => ∃ (j : Nat) (lf : Nat → Nat) (v : Value), v = s4 ∧ s5 = .int .i64 (j : Int) ∧ j ≤ R ∧ R - j ≤ gg ∧ Aside (wr.ownsRow B 55 1 v j (rowsV lf R j)) ∧ Aside (∀ r, r < j → Rb wr (lf r) R (T r)) ∧ Aside (Turned [] w wr))
  case atStart => exact ⟨0, fun _ => 0, _, rfl, rfl, by omega, by omega, HO0.out, fun r hr => by omega, Turned.refl [] w⟩
  case round =>
    obtain ⟨j, lf, v, rfl, rfl, hj, hgj, hown, hrows, hts⟩ := hrel
    have HO := hide hown.out
    have HRs := hide hrows.out
    have HT := hide hts.out
    clear hown hrows hts HO0
    obtain ⟨w4, hw4⟩ : ∃ w4, w4 = wr := ⟨_, rfl⟩
    subst hw4
    by_cases hlt : j < R
    · have hlti : (j : Int) < (R : Int) := by omega
      have HG := hide (fun w' => HGo.out w' j hlt)
      have HSt := hide (fun w' x t h1 h2 => HSo.out w' j x t hlt h1 h2)
      have hg2b := HGb.out j
      obtain ⟨w5, hw5⟩ : ∃ w5, w5 = w4.alloc (.cells (madeCells #[Value.bool false] R) 4) := ⟨_, rfl⟩
      have hb5 : Rb w5 w4.heap.size R (fun _ => false) := by rw [hw5]; exact new_bools w4 R
      have hU5 : Turned [] w4 w5 := by rw [hw5]; exact (Turned.refl [] w4).alloc _
      have HT5 := hide (HT.out.trans hU5)
      have HO5 : Hid (w5.ownsRow B 55 1 v j (rowsV lf R j)) := hide (ownsRow_keep HO.out (fun k hk => hU5.block k (ownsRow_lt HO.out k hk).2.1 (by simp)))
      have HRs5 : Hid (∀ r, r < j → Rb w5 (lf r) R (T r)) := hide (fun r hr => (HRs.out r hr).turned0 hU5)
      obtain ⟨tb, htb⟩ : ∃ tb, tb = w4.heap.size := ⟨_, rfl⟩
      have HTb := hide (show B ≤ tb by rw [htb, HB.out]; exact HT.out.size)
      have HXt : Hid (xb ≠ tb) := hide (by have := lt_of_heap (HHd.out w4 HT.out); have := lt_of_heap (HHd.out w (Turned.refl [] w)); have := HB.out; have := HT.out.size; omega)
      have HTne : Hid (∀ r, r < j → lf r ≠ tb) := hide (fun r hr => by have := (HRs.out r hr).lt; omega)
      have HTow : Hid (∀ k, v.ownBlock = some k → k ≠ tb) := hide (fun k hk => by have := (ownsRow_lt HO.out k hk).2.1; omega)
      have HR5 : Hid (Rb w5 tb R (U j (G1 j))) := hide (by rw [htb]; exact hb5.congr (fun i _ => (HUs.out j i).symm))
      have HUe2 : Hid (∀ q, q < R → G1 j < G2 j → U j (G2 j) q = T j q) := hide (fun q hq h => HUe.out j q hlt hq h)
      have HUn2 : Hid (∀ q, q < R → ¬ G1 j < G2 j → T j q = U j (G1 j) q) := hide (fun q hq h => by rw [HUn.out j q hlt hq h, HUs.out j q])
      clear hb5 hU5 HRs HO HT
      generalize hG1 : G1 j = a1 at *
      generalize hG2 : G2 j = a2 at *
      clear hG1 hG2
      go_upto_region 7 with fail
      rw [← hw5, ← htb]
      clear hw5 htb
      have hh := HHd.out w5 HT5.out
      have c3 : w5.cell? ⟨xb, 3, none⟩ = some (.pointer (some ⟨rp, 0, none⟩)) := by rw [cell_of_heap hh]; rfl
      have c4 : w5.cell? ⟨xb, 4, none⟩ = some (.int .i64 (P.f : Int)) := by rw [cell_of_heap hh]; rfl
      have c5 : w5.cell? ⟨xb, 5, none⟩ = some (.int .i64 (P.t : Int)) := by rw [cell_of_heap hh]; rfl
      have c6 : w5.cell? ⟨xb, 6, none⟩ = some (.int .i64 (P.k : Int)) := by rw [cell_of_heap hh]; rfl
      have c7 : w5.cell? ⟨xb, 7, none⟩ = some (.int .i64 (P.d : Int)) := by rw [cell_of_heap hh]; rfl
      have c8 : w5.cell? ⟨xb, 8, none⟩ = some (.int .i64 (P.e : Int)) := by rw [cell_of_heap hh]; rfl
      have c9 : w5.cell? ⟨xb, 9, none⟩ = some (.slice lo R lc) := by rw [cell_of_heap hh]; rfl
      have c10 : w5.cell? ⟨xb, 10, none⟩ = some (.slice ho R hc) := by rw [cell_of_heap hh]; rfl
      have c11 : w5.cell? ⟨xb, 11, none⟩ = some (.slice (some ⟨wq, 0, none⟩) R R) := by rw [cell_of_heap hh]; rfl
      have c12 : w5.cell? ⟨xb, 12, none⟩ = some (.slice (some ⟨tq, 0, none⟩) R R) := by rw [cell_of_heap hh]; rfl
      clear hh
      go_wp2_with fail
      refine (HG.out w5).mono ?_
      rintro e w6 ⟨rfl, t6⟩
      have HT6 := hide (HT5.out.trans t6)
      have HO6 : Hid (w6.ownsRow B 55 1 v j (rowsV lf R j)) := hide (ownsRow_keep HO5.out (fun k hk => t6.block k (ownsRow_lt HO5.out k hk).2.1 (by simp)))
      have HRs6 : Hid (∀ r, r < j → Rb w6 (lf r) R (T r)) := hide (fun r hr => (HRs5.out r hr).turned0 t6)
      have HR6 := hide (HR5.out.turned0 t6)
      clear t6 HT5 HO5 HRs5 HR5 HG c3 c4 c5 c6 c7 c8 c9 c10 c11 c12
      go_wp2_with fail
      go_loopg [9] 1100 (fun gg s9 wr => ∃ (x : Nat), s9 = .int .i64 (x : Int) ∧ a1 ≤ x ∧ (x ≤ a2 ∨ x = a1) ∧ a2 - x ≤ gg ∧ Aside (Rb wr tb R (U j x)) ∧ Aside (wr.ownsRow B 55 1 v j (rowsV lf R j)) ∧ Aside (∀ r, r < j → Rb wr (lf r) R (T r)) ∧ Aside (Turned [] w wr))
      case atStart => exact ⟨a1, rfl, Nat.le_refl _, by omega, by omega, HR6.out, HO6.out, HRs6.out, HT6.out⟩
      case round =>
        obtain ⟨y, rfl, hy1, hy2, hgy, hrb, hown, hrows, hts⟩ := hrel
        have HR7 := hide hrb.out
        have HO7 := hide hown.out
        have HRs7 := hide hrows.out
        have HT7 := hide hts.out
        clear hrb hown hrows hts HR6 HO6 HRs6 HT6
        obtain ⟨w7, hw7⟩ : ∃ w7, w7 = wr := ⟨_, rfl⟩
        subst hw7
        by_cases hya : y < a2
        · have hyai : (y : Int) < (a2 : Int) := by omega
          have HX := hide (fun w' t => HSt.out w' y t hy1 hya)
          have hh := HHd.out w7.drew HT7.out.drew
          have c3 : w7.drew.cell? ⟨xb, 3, none⟩ = some (.pointer (some ⟨rp, 0, none⟩)) := by rw [cell_of_heap hh]; rfl
          have c4 : w7.drew.cell? ⟨xb, 4, none⟩ = some (.int .i64 (P.f : Int)) := by rw [cell_of_heap hh]; rfl
          have c5 : w7.drew.cell? ⟨xb, 5, none⟩ = some (.int .i64 (P.t : Int)) := by rw [cell_of_heap hh]; rfl
          have c6 : w7.drew.cell? ⟨xb, 6, none⟩ = some (.int .i64 (P.k : Int)) := by rw [cell_of_heap hh]; rfl
          have c7 : w7.drew.cell? ⟨xb, 7, none⟩ = some (.int .i64 (P.d : Int)) := by rw [cell_of_heap hh]; rfl
          have c8 : w7.drew.cell? ⟨xb, 8, none⟩ = some (.int .i64 (P.e : Int)) := by rw [cell_of_heap hh]; rfl
          have c9 : w7.drew.cell? ⟨xb, 9, none⟩ = some (.slice lo R lc) := by rw [cell_of_heap hh]; rfl
          have c10 : w7.drew.cell? ⟨xb, 10, none⟩ = some (.slice ho R hc) := by rw [cell_of_heap hh]; rfl
          have c11 : w7.drew.cell? ⟨xb, 11, none⟩ = some (.slice (some ⟨wq, 0, none⟩) R R) := by rw [cell_of_heap hh]; rfl
          have c12 : w7.drew.cell? ⟨xb, 12, none⟩ = some (.slice (some ⟨tq, 0, none⟩) R R) := by rw [cell_of_heap hh]; rfl
          clear hh
          go_wp2_with fail
          go_region_held3 (fun w' => w'.cell? ⟨xb, 3, none⟩ = some (.pointer (some ⟨rp, 0, none⟩)) ∧ w'.cell? ⟨xb, 4, none⟩ = some (.int .i64 (P.f : Int)) ∧ w'.cell? ⟨xb, 5, none⟩ = some (.int .i64 (P.t : Int)) ∧ w'.cell? ⟨xb, 6, none⟩ = some (.int .i64 (P.k : Int)) ∧ w'.cell? ⟨xb, 7, none⟩ = some (.int .i64 (P.d : Int)) ∧ w'.cell? ⟨xb, 8, none⟩ = some (.int .i64 (P.e : Int)) ∧ w'.cell? ⟨xb, 9, none⟩ = some (.slice lo R lc) ∧ w'.cell? ⟨xb, 10, none⟩ = some (.slice ho R hc) ∧ w'.cell? ⟨xb, 11, none⟩ = some (.slice (some ⟨wq, 0, none⟩) R R) ∧ w'.cell? ⟨xb, 12, none⟩ = some (.slice (some ⟨tq, 0, none⟩) R R)) (go_keep)
            (first
              | (go_at_call 18; refine (HRg.out _ sx hsx1).mono ?_; rintro e' w9 ⟨rfl, t9⟩; have g3 : w9.cell? ⟨xb, 3, none⟩ = some (.pointer (some ⟨rp, 0, none⟩)) := (by rw [t9.cell (block_lt d3) (by simp)]; exact d3); have g4 : w9.cell? ⟨xb, 4, none⟩ = some (.int .i64 (P.f : Int)) := (by rw [t9.cell (block_lt d4) (by simp)]; exact d4); have g5 : w9.cell? ⟨xb, 5, none⟩ = some (.int .i64 (P.t : Int)) := (by rw [t9.cell (block_lt d5) (by simp)]; exact d5); have g6 : w9.cell? ⟨xb, 6, none⟩ = some (.int .i64 (P.k : Int)) := (by rw [t9.cell (block_lt d6) (by simp)]; exact d6); have g7 : w9.cell? ⟨xb, 7, none⟩ = some (.int .i64 (P.d : Int)) := (by rw [t9.cell (block_lt d7) (by simp)]; exact d7); have g8 : w9.cell? ⟨xb, 8, none⟩ = some (.int .i64 (P.e : Int)) := (by rw [t9.cell (block_lt d8) (by simp)]; exact d8); have g9 : w9.cell? ⟨xb, 9, none⟩ = some (.slice lo R lc) := (by rw [t9.cell (block_lt d9) (by simp)]; exact d9); have g10 : w9.cell? ⟨xb, 10, none⟩ = some (.slice ho R hc) := (by rw [t9.cell (block_lt d10) (by simp)]; exact d10); have g11 : w9.cell? ⟨xb, 11, none⟩ = some (.slice (some ⟨wq, 0, none⟩) R R) := (by rw [t9.cell (block_lt d11) (by simp)]; exact d11); have g12 : w9.cell? ⟨xb, 12, none⟩ = some (.slice (some ⟨tq, 0, none⟩) R R) := (by rw [t9.cell (block_lt d12) (by simp)]; exact d12); have HU9 := hide (HU8.out.trans t9); clear t9; have hri : ((P.reg sx : Nat) : Int) < (R : Int) := (by omega); have hri0 : ¬ ((P.reg sx : Nat) : Int) < 0 := (by omega); have HR9 := hide (HR7.out.turned0 HU9.out); have cb := HR9.out.cell hsx2; have fz := HR9.out.fz (P.reg sx); have lt := HR9.out.lt; have t10 : Turned [tb] w9 (w9.setCell ⟨tb, P.reg sx, none⟩ (.bool true)) := ((Turned.refl [tb] w9).setCell (p := ⟨tb, P.reg sx, none⟩) (.inl (by simp)) (.bool true)); have k3 : (w9.setCell ⟨tb, P.reg sx, none⟩ (.bool true)).cell? ⟨xb, 3, none⟩ = some (.pointer (some ⟨rp, 0, none⟩)) := (by rw [t10.cell (block_lt g3) (by simpa using HXt.out)]; exact g3); have k4 : (w9.setCell ⟨tb, P.reg sx, none⟩ (.bool true)).cell? ⟨xb, 4, none⟩ = some (.int .i64 (P.f : Int)) := (by rw [t10.cell (block_lt g4) (by simpa using HXt.out)]; exact g4); have k5 : (w9.setCell ⟨tb, P.reg sx, none⟩ (.bool true)).cell? ⟨xb, 5, none⟩ = some (.int .i64 (P.t : Int)) := (by rw [t10.cell (block_lt g5) (by simpa using HXt.out)]; exact g5); have k6 : (w9.setCell ⟨tb, P.reg sx, none⟩ (.bool true)).cell? ⟨xb, 6, none⟩ = some (.int .i64 (P.k : Int)) := (by rw [t10.cell (block_lt g6) (by simpa using HXt.out)]; exact g6); have k7 : (w9.setCell ⟨tb, P.reg sx, none⟩ (.bool true)).cell? ⟨xb, 7, none⟩ = some (.int .i64 (P.d : Int)) := (by rw [t10.cell (block_lt g7) (by simpa using HXt.out)]; exact g7); have k8 : (w9.setCell ⟨tb, P.reg sx, none⟩ (.bool true)).cell? ⟨xb, 8, none⟩ = some (.int .i64 (P.e : Int)) := (by rw [t10.cell (block_lt g8) (by simpa using HXt.out)]; exact g8); have k9 : (w9.setCell ⟨tb, P.reg sx, none⟩ (.bool true)).cell? ⟨xb, 9, none⟩ = some (.slice lo R lc) := (by rw [t10.cell (block_lt g9) (by simpa using HXt.out)]; exact g9); have k10 : (w9.setCell ⟨tb, P.reg sx, none⟩ (.bool true)).cell? ⟨xb, 10, none⟩ = some (.slice ho R hc) := (by rw [t10.cell (block_lt g10) (by simpa using HXt.out)]; exact g10); have k11 : (w9.setCell ⟨tb, P.reg sx, none⟩ (.bool true)).cell? ⟨xb, 11, none⟩ = some (.slice (some ⟨wq, 0, none⟩) R R) := (by rw [t10.cell (block_lt g11) (by simpa using HXt.out)]; exact g11); have k12 : (w9.setCell ⟨tb, P.reg sx, none⟩ (.bool true)).cell? ⟨xb, 12, none⟩ = some (.slice (some ⟨tq, 0, none⟩) R R) := (by rw [t10.cell (block_lt g12) (by simpa using HXt.out)]; exact g12); clear t10)
              | (go_at_call 19; refine (HX.out _ HT7.out.drew).mono ?_; rintro e' w8 ⟨sx, rfl, ⟨hsx1, hsx2, hsx4⟩, t8⟩; have d3 : w8.cell? ⟨xb, 3, none⟩ = some (.pointer (some ⟨rp, 0, none⟩)) := (by rw [t8.cell (block_lt c3) (by simp)]; exact c3); have d4 : w8.cell? ⟨xb, 4, none⟩ = some (.int .i64 (P.f : Int)) := (by rw [t8.cell (block_lt c4) (by simp)]; exact c4); have d5 : w8.cell? ⟨xb, 5, none⟩ = some (.int .i64 (P.t : Int)) := (by rw [t8.cell (block_lt c5) (by simp)]; exact c5); have d6 : w8.cell? ⟨xb, 6, none⟩ = some (.int .i64 (P.k : Int)) := (by rw [t8.cell (block_lt c6) (by simp)]; exact c6); have d7 : w8.cell? ⟨xb, 7, none⟩ = some (.int .i64 (P.d : Int)) := (by rw [t8.cell (block_lt c7) (by simp)]; exact c7); have d8 : w8.cell? ⟨xb, 8, none⟩ = some (.int .i64 (P.e : Int)) := (by rw [t8.cell (block_lt c8) (by simp)]; exact c8); have d9 : w8.cell? ⟨xb, 9, none⟩ = some (.slice lo R lc) := (by rw [t8.cell (block_lt c9) (by simp)]; exact c9); have d10 : w8.cell? ⟨xb, 10, none⟩ = some (.slice ho R hc) := (by rw [t8.cell (block_lt c10) (by simp)]; exact c10); have d11 : w8.cell? ⟨xb, 11, none⟩ = some (.slice (some ⟨wq, 0, none⟩) R R) := (by rw [t8.cell (block_lt c11) (by simp)]; exact c11); have d12 : w8.cell? ⟨xb, 12, none⟩ = some (.slice (some ⟨tq, 0, none⟩) R R) := (by rw [t8.cell (block_lt c12) (by simp)]; exact c12); have HU8 := hide ((Turned.refl [] w7).drew.trans t8); have HSx := hide hsx4; clear t8 hsx4))
          clear c3 c4 c5 c6 c7 c8 c9 c10 c11 c12 d3 d4 d5 d6 d7 d8 d9 d10 d11 d12 g3 g4 g5 g6 g7 g8 g9 g10 g11 g12 k3 k4 k5 k6 k7 k8 k9 k10 k11 k12 HU8 HX hsx1
          generalize P.reg sx = r at *
          have HT9 := hide (HT7.out.trans HU9.out)
          have tt : Turned [tb] w7 (w9.setCell ⟨tb, r, none⟩ (.bool true)) := ((Turned.refl [tb] w7).trans_new HU9.out (by simp)).setCell (p := ⟨tb, r, none⟩) (.inl (by simp)) (.bool true)
          have HR10 : Hid (Rb (w9.setCell ⟨tb, r, none⟩ (.bool true)) tb R (U j (y + 1))) := hide ((HR9.out.set r true).congr (fun q hq => (HSx.out q hq).symm))
          have HO10 : Hid ((w9.setCell ⟨tb, r, none⟩ (.bool true)).ownsRow B 55 1 v j (rowsV lf R j)) := hide (ownsRow_keep HO7.out (fun k hk => tt.block k (ownsRow_lt HO7.out k hk).2.1 (by have := HTow.out k hk; simpa using this)))
          have HRs10 : Hid (∀ r', r' < j → Rb (w9.setCell ⟨tb, r, none⟩ (.bool true)) (lf r') R (T r')) := hide (fun r' hr => (HRs7.out r' hr).turned tt (by have := HTne.out r' hr; simpa using this))
          have HT10 : Hid (Turned [] w (w9.setCell ⟨tb, r, none⟩ (.bool true))) := hide (HT9.out.setCell (p := ⟨tb, r, none⟩) (.inr (show w.heap.size ≤ tb by rw [← HB.out]; exact HTb.out)) (.bool true))
          clear HR7 HR9 HO7 HRs7 HT7 HT9 HU9 HSx tt
          go_wp2_with fail
          go_roundg (a2 - (y + 1))
          case measure => omega
          case rel => exact ⟨y + 1, by go_num, by omega, by omega, Nat.le_refl _, HR10.out, HO10.out, HRs10.out, HT10.out⟩
        · have hyai : ¬ (y : Int) < (a2 : Int) := by omega
          have HR8 : Hid (Rb w7 tb R (T j)) := hide (HR7.out.congr (fun q hq => by
            by_cases hg : a1 < a2
            · rw [show y = a2 by omega]; exact HUe2.out q hq hg
            · rw [show y = a1 by omega]; exact (HUn2.out q hq hg).symm))
          have hbs : ∀ w : World, (Instr.buildSlice 52 1 #[(0, .slice (some ⟨tb, 0, none⟩) R R)]).run Tryz.prog w = .ok (.slice (some ⟨w.heap.size, 0, none⟩) 1 1) (w.alloc (.cells #[.slice (some ⟨tb, 0, none⟩) R R] 55)) := fun w => by kernel_rfl
          have hU : Turned [] w7 (w7.alloc (.cells #[.slice (some ⟨tb, 0, none⟩) R R] 55)) := (Turned.refl [] w7).alloc _
          have HT8 := hide (HT7.out.trans hU)
          have HR9 := hide (HR8.out.turned0 hU)
          have HO8 : Hid ((w7.alloc (.cells #[.slice (some ⟨tb, 0, none⟩) R R] 55)).ownsRow B 55 1 v j (rowsV lf R j)) := hide (ownsRow_keep HO7.out (fun k hk => hU.block k (ownsRow_lt HO7.out k hk).2.1 (by simp)))
          have HRs8 : Hid (∀ r, r < j → Rb (w7.alloc (.cells #[.slice (some ⟨tb, 0, none⟩) R R] 55)) (lf r) R (T r)) := hide (fun r hr => (HRs7.out r hr).turned0 hU)
          have HBs : Hid (B ≤ (w7.alloc (.cells #[.slice (some ⟨tb, 0, none⟩) R R] 55)).heap.size) := hide (by rw [HB.out]; exact HT8.out.size)
          have HNw : Hid (∀ j u, [Value.slice (some ⟨tb, 0, none⟩) R R][j]? = some u → (w7.alloc (.cells #[.slice (some ⟨tb, 0, none⟩) R R] 55)).cell? ((⟨w7.heap.size, 0, none⟩ : Addr).add j) = some u) := hide (fun j u hu => by
            rw [Addr.add_lit, cell_of_heap (heap_alloc_new _ _)]
            match j, hu with
            | 0, hu => simpa using hu
            | j + 1, hu => simp at hu)
          clear HR7 HR8 HO7 HRs7 HT7 hU HSt HUe2 HUn2
          go_wp2_with (at_builtin; refine wpList_append_own _ rfl _ _ 52 rfl B 55 i0 (.slice none 0 0) 1 24 Tryz.underlying52 HI.out.1 HI.out.2.1 HI.out.2.2.1 HI.out.2.2.2 rfl (by decide) v j (rowsV lf R j) rfl HO8.out ⟨w7.heap.size, 0, none⟩ 1 1 [.slice (some ⟨tb, 0, none⟩) R R] rfl rfl HNw.out (by intro u hu; simp at hu; subst hu; rfl) (by unfold maxLen; omega) (by omega) HBs.out ?_; intro v10 w10 hown hgr hvv)
          have HO10 : Hid (w10.ownsRow B 55 1 v10 (j + 1) (rowsV (fun i => if i = j then tb else lf i) R (j + 1))) := hide (by rw [rowsV_next]; exact hown)
          have HRs10 : Hid (∀ r, r < j + 1 → Rb w10 (if r = j then tb else lf r) R (T r)) := hide (fun r hr => by
            by_cases e : r = j
            · rw [if_pos e, e]; exact HR9.out.grown HO8.out (by decide) hgr
            · rw [if_neg e]; exact (HRs8.out r (by omega)).grown HO8.out (by decide) hgr)
          have HT10 : Hid (Turned [] w w10) := hide (HT8.out.grown hgr (fun k hk => .inr (by rw [← HB.out]; exact (ownsRow_lt HO8.out k hk).1)))
          clear hown hgr hvv HO8 HRs8 HR9 HT8 HNw hbs HBs HTb HTne HTow
          go_wp2_with fail
          go_roundg (R - (j + 1))
          case measure => omega
          case rel => exact ⟨j + 1, _, _, rfl, by go_num, by omega, Nat.le_refl _, HO10.out, HRs10.out, HT10.out⟩
    · have hlti : ¬ (j : Int) < (R : Int) := by omega
      have hjR : j = R := by omega
      subst hjR
      obtain ⟨ao, cap, rfl, htb⟩ := own_tbl HO.out HRs.out
      have HTb := hide htb
      clear htb HO HRs
      have hdd : decide ((j : Int) < (j : Int)) = false := decide_eq_false (by omega)
      go_wp2_with fail
      go_ret
      first
        | exact ⟨ao, cap, rfl, HTb.out, HT.out⟩
        | exact ⟨ao, ⟨cap, rfl⟩, HTb.out, HT.out⟩
end Go.Proofs.YtbmlggemheljkaaGreatDoor

/-
  What the law on two gangs keeps: the words and the number of moves of each.
-/
namespace Go.Proofs.YtbmlggemheljkaaGreatDoor
open Go.RowKit Bt
set_option linter.unusedVariables false
set_option linter.unusedSimpArgs false

/-- A gang has ended: its words up to Top, and how many it has moved. -/
def Got (S : Nat → Nat) (k vv : Nat) (w : World) (v : Value) (mm : Int) : Prop := ∃ (P : PN) (g c : Nat), Makes S 0 150 k vv P ∧ P.e ≤ 150 ∧ v = .slice (some ⟨g, 0, none⟩) P.e c ∧ (∀ i, i < P.e → w.cell? ⟨g, i, none⟩ = some (.int .i64 (finF P S P.e i))) ∧ mm = (P.e : Int) - (P.d : Int)
theorem Got.turned {S : Nat → Nat} {k vv : Nat} {w w' : World} {v : Value} {mm : Int} (h : Got S k vv w v mm) (t : Turned [] w w') : Got S k vv w' v mm := by
  obtain ⟨P, g, c, h1, h2, h3, h4, h5⟩ := h
  exact ⟨P, g, c, h1, h2, h3, fun i hi => by rw [t.cell (block_lt (h4 i hi)) (by simp)]; exact h4 i hi, h5⟩
theorem Got.at {S : Nat → Nat} {k vv : Nat} {w w' : World} {v : Value} {mm : Int} (h : Got S k vv w v mm) {x : Nat} {c0 : Array Value} {T : TypeId} (hx : w.heap[x]? = some (.cells c0 T)) (hT : ∀ (g : Nat) (z : Int), c0[g]? ≠ some (.int .i64 z) ∨ T ≠ 2) (t : Turned [x] w w') (hne : ∀ g n c, v = .slice (some ⟨g, 0, none⟩) n c → g ≠ x) : Got S k vv w' v mm := by
  obtain ⟨P, g, c, h1, h2, h3, h4, h5⟩ := h
  exact ⟨P, g, c, h1, h2, h3, fun i hi => by rw [t.cell (block_lt (h4 i hi)) (by simp; exact hne _ _ _ h3)]; exact h4 i hi, h5⟩
/-- The law's arrays. -/
structure WA (S : Nat → Nat) (k vv : Nat) (w0 wr : World) (ab mb kq : Nat) (V : Nat → Value) (Mm : Nat → Int) : Prop where
  hw : ∃ c : Array Value, wr.heap[ab]? = some (.cells c 63) ∧ c.size = 2 ∧ ∀ i, i < 2 → c[i]? = some (V i)
  hm : Ri wr 46 mb 2 Mm
  got : ∀ i, i < kq → Got S k vv wr (V i) (Mm i)
  below : ∀ i, i < kq → ∀ g n c, V i = .slice (some ⟨g, 0, none⟩) n c → g ≠ ab ∧ g ≠ mb
  lo : w0.heap.size ≤ ab ∧ w0.heap.size ≤ mb ∧ ab ≠ mb
section
variable {S : Nat → Nat} {k vv : Nat} {w0 wr w' : World} {ab mb kq : Nat} {V : Nat → Value} {Mm : Nat → Int}
theorem WA.turned (h : WA S k vv w0 wr ab mb kq V Mm) (t : Turned [] wr w') : WA S k vv w0 w' ab mb kq V Mm := by
  obtain ⟨c, h1, h2, h3⟩ := h.hw
  exact ⟨⟨c, by rw [t.block ab (lt_of_heap h1) (by simp)]; exact h1, h2, h3⟩, h.hm.turned0 t, fun i hi => (h.got i hi).turned t, h.below, h.lo⟩
/-- The next gang's words and moves. -/
theorem WA.next (h : WA S k vv w0 wr ab mb kq V Mm) (hk : kq < 2) {v : Value} {mm : Int} (hg : Got S k vv wr v mm) (hv : ∀ g n c, v = .slice (some ⟨g, 0, none⟩) n c → g ≠ ab ∧ g ≠ mb) : WA S k vv w0 ((wr.setCell ⟨ab, kq, none⟩ v).setCell ⟨mb, kq, none⟩ (.int .i64 mm)) ab mb (kq + 1) (fun i => if i = kq then v else V i) (fun i => if i = kq then mm else Mm i) := by
  obtain ⟨c, h1, h2, h3⟩ := h.hw
  have t1 : Turned [ab, mb] wr ((wr.setCell ⟨ab, kq, none⟩ v).setCell ⟨mb, kq, none⟩ (.int .i64 mm)) := ((Turned.refl [ab, mb] wr).setCell (p := ⟨ab, kq, none⟩) (.inl (by simp)) v).setCell (p := ⟨mb, kq, none⟩) (.inl (by simp)) _
  have ta : Turned [ab] wr (wr.setCell ⟨ab, kq, none⟩ v) := (Turned.refl [ab] wr).setCell (p := ⟨ab, kq, none⟩) (.inl (by simp)) v
  have tm : Turned [mb] (wr.setCell ⟨ab, kq, none⟩ v) ((wr.setCell ⟨ab, kq, none⟩ v).setCell ⟨mb, kq, none⟩ (.int .i64 mm)) := (Turned.refl [mb] _).setCell (p := ⟨mb, kq, none⟩) (.inl (by simp)) _
  have key : ∀ {u : Value} {x : Int}, Got S k vv wr u x → (∀ g n c, u = .slice (some ⟨g, 0, none⟩) n c → g ≠ ab ∧ g ≠ mb) → Got S k vv ((wr.setCell ⟨ab, kq, none⟩ v).setCell ⟨mb, kq, none⟩ (.int .i64 mm)) u x := by
    rintro u x ⟨P, g, c, a1, a2, a3, a4, a5⟩ hu
    have := hu g P.e c a3
    exact ⟨P, g, c, a1, a2, a3, fun i hi => by rw [t1.cell (block_lt (a4 i hi)) (by simp; exact this)]; exact a4 i hi, a5⟩
  have e1 := heap_setCell_at _ _ kq _ _ _ h1 v
  refine ⟨⟨c.setIfInBounds kq v, ?_, by simp [h2], fun i hi => ?_⟩, ?_, fun i hi => ?_, fun i hi => ?_, h.lo⟩
  · rw [tm.block ab (lt_of_heap e1) (by simp; exact h.lo.2.2)]; exact e1
  · rw [Array.getElem?_setIfInBounds]
    by_cases e : i = kq
    · subst e; simp [h2, hi]
    · rw [if_neg (fun e' => e e'.symm), if_neg e]; exact h3 i hi
  · exact (h.hm.turned ta (by simp; exact fun e => h.lo.2.2 e.symm)).set kq mm
  · show Got S k vv _ (if i = kq then v else V i) (if i = kq then mm else Mm i)
    by_cases e : i = kq
    · rw [if_pos e, if_pos e]; exact key hg hv
    · rw [if_neg e, if_neg e]; exact key (h.got i (by omega)) (h.below i (by omega))
  · by_cases e : i = kq
    · intro g n c hh
      have : (if i = kq then v else V i) = v := if_pos e
      rw [this] at hh
      exact hv g n c hh
    · intro g n c hh
      have : (if i = kq then v else V i) = V i := if_neg e
      rw [this] at hh
      exact h.below i (by omega) g n c hh
end
section
variable {S : Nat → Nat} {k vv : Nat} {w0 wr w10 : World} {ab mb kq : Nat} {V : Nat → Value} {Mm : Nat → Int}
/-- The same, with a call between the two stores that only makes what is new. -/
theorem WA.next2 (h : WA S k vv w0 wr ab mb kq V Mm) (hk : kq < 2) {v : Value} {mm : Int} (hg : Got S k vv wr v mm) (hv : ∀ g n c, v = .slice (some ⟨g, 0, none⟩) n c → g ≠ ab ∧ g ≠ mb) (t : Turned [] (wr.setCell ⟨ab, kq, none⟩ v) w10) : WA S k vv w0 (w10.setCell ⟨mb, kq, none⟩ (.int .i64 mm)) ab mb (kq + 1) (fun i => if i = kq then v else V i) (fun i => if i = kq then mm else Mm i) := by
  obtain ⟨c, h1, h2, h3⟩ := h.hw
  have ta : Turned [ab] wr (wr.setCell ⟨ab, kq, none⟩ v) := (Turned.refl [ab] wr).setCell (p := ⟨ab, kq, none⟩) (.inl (by simp)) v
  have tm : Turned [mb] w10 (w10.setCell ⟨mb, kq, none⟩ (.int .i64 mm)) := (Turned.refl [mb] _).setCell (p := ⟨mb, kq, none⟩) (.inl (by simp)) _
  have t1 : Turned [ab, mb] wr (w10.setCell ⟨mb, kq, none⟩ (.int .i64 mm)) := ((ta.mono (by simp)).trans (t.mono (by simp))).trans (tm.mono (by simp))
  have key : ∀ {u : Value} {x : Int}, Got S k vv wr u x → (∀ g n c, u = .slice (some ⟨g, 0, none⟩) n c → g ≠ ab ∧ g ≠ mb) → Got S k vv (w10.setCell ⟨mb, kq, none⟩ (.int .i64 mm)) u x := by
    rintro u x ⟨P, g, c, a1, a2, a3, a4, a5⟩ hu
    have := hu g P.e c a3
    exact ⟨P, g, c, a1, a2, a3, fun i hi => by rw [t1.cell (block_lt (a4 i hi)) (by simp; exact this)]; exact a4 i hi, a5⟩
  have e1 := heap_setCell_at _ _ kq _ _ _ h1 v
  have e2 : w10.heap[ab]? = some (.cells (c.setIfInBounds kq v) 63) := by rw [t.block ab (lt_of_heap e1) (by simp)]; exact e1
  refine ⟨⟨c.setIfInBounds kq v, ?_, by simp [h2], fun i hi => ?_⟩, ?_, fun i hi => ?_, fun i hi => ?_, h.lo⟩
  · rw [tm.block ab (lt_of_heap e2) (by simp; exact h.lo.2.2)]; exact e2
  · rw [Array.getElem?_setIfInBounds]
    by_cases e : i = kq
    · subst e; simp [h2, hi]
    · rw [if_neg (fun e' => e e'.symm), if_neg e]; exact h3 i hi
  · exact ((h.hm.turned ta (by simp; exact fun e => h.lo.2.2 e.symm)).turned0 t).set kq mm
  · show Got S k vv _ (if i = kq then v else V i) (if i = kq then mm else Mm i)
    by_cases e : i = kq
    · rw [if_pos e, if_pos e]; exact key hg hv
    · rw [if_neg e, if_neg e]; exact key (h.got i (by omega)) (h.below i (by omega))
  · by_cases e : i = kq
    · intro g n c hh
      have : (if i = kq then v else V i) = v := if_pos e
      rw [this] at hh
      exact hv g n c hh
    · intro g n c hh
      have : (if i = kq then v else V i) = V i := if_neg e
      rw [this] at hh
      exact h.below i (by omega) g n c hh
end
/-- Moves, where a block of another kind was stored into meanwhile. -/
theorem smoves_raw (w : World) (sb B : Nat) (m : Value) (mv : List (Nat × Nat)) (hc : w.cell? ⟨sb, 15, none⟩ = some m) (ho : w.ownsRow B 46 2 m mv.length (mvRow mv)) (h6 : ∀ p, p ∈ mv → p.1 ≤ 65536 ∧ p.2 ≤ 65536) (hn : mv.length ≤ 1000000) :
    Calls Tryz.prog 17 #[.pointer (some ⟨sb, 0, none⟩)] w fun e w' => ∃ ao cap, e = .returned (.slice ao mv.length cap) ∧ Turned [] w w' := by
  have HC := hide (clone_pairs B m mv w ho h6 hn)
  obtain ⟨mo, mc, rfl⟩ : ∃ mo mc, m = .slice mo mv.length mc := own_opens ho
  clear ho h6 hn
  generalize mv.length = n at *
  go_enter Tryz.func17, Tryz.ntmps17
  go_wp2_with fail
  refine (HC.out).mono ?_
  rintro e w1 ⟨ao, cap, rfl, h1, h2, t1⟩
  have HF := hide t1
  clear h1 h2 t1 HC
  go_wp2_with fail
  go_ret
  exact ⟨ao, cap, rfl, HF.out⟩
theorem lx_moves_at {J : LI} {w w' : World} {u : Nat → Nat} {s : SlS} {v m : Value} {sb xb cp rp N n wq tq : Nat} {P : PN} {S : Nat → Nat} {wv l a : Value} (h : Ls J w u s v m) (e : J.Is sb xb cp rp N n P S wv l a wq tq) {x : Nat} {c : Array Value} {T : TypeId} (hx : w.heap[x]? = some (.cells c T)) (h1 : T ≠ 81) (h2 : T ≠ 46) (t : Turned [x] w w') :
    Calls Tryz.prog 17 #[.pointer (some ⟨sb, 0, none⟩)] w' fun e w'' => ∃ ao cap, e = .returned (.slice ao s.mv.length cap) ∧ Turned [] w' w'' := by
  obtain ⟨rfl, rfl, rfl, rfl, rfl, rfl, rfl, rfl, rfl, rfl, rfl, rfl, rfl⟩ := e
  have hT : ∀ e : TypeId, T ≠ e → ∀ i, i ∈ [x] → ∃ c' e' fr, w.heap[i]? = some (.cells c' e' fr) ∧ e' ≠ e := by
    intro e h1 i hi
    simp at hi
    subst hi
    exact ⟨_, _, _, hx, h1⟩
  have hh := keep_ty t h.sl.head (hT _ h1)
  exact smoves_raw w' J.I.sb J.I.B m s.mv (by rw [cell_of_heap hh]; rfl) (own_ty h.sl.mv t (hT _ h2)) h.mv6.1 (by have := h.mv6.2; omega)
set_option maxRecDepth 100000 in
theorem cut15 (g len cap m : Nat) (hc : m ≤ cap) : ∀ w' : World, (Instr.slice 35 (.slice (some ⟨g, 0, none⟩) len cap) none (some (.int .i64 (m : Int))) none).run Tryz.prog w' = .ok (.slice (some ⟨g, 0, none⟩) m cap) w' := fun w' => by
  rw [run_slice_h (P := Tryz.prog) w' 35 (some ⟨g, 0, none⟩) len cap Tryz.underlying35 .i64 (m : Int) (by omega) (by omega)]
  show Result.ok (sliced _ 0 (m : Int).toNat cap 1) w' = _
  simp [sliced, Addr.add]
end Go.Proofs.YtbmlggemheljkaaGreatDoor

/-
  The example in the laws of layer 15, reckoned out. No Go is walked here.
-/
namespace Go.Proofs.YtbmlggemheljkaaGreatDoor
open Go.RowKit Bt
set_option linter.unusedVariables false
set_option linter.unusedSimpArgs false

def cs15 : List (Int × Int) := [(0, 2), (3, 2), (6, 1)]
def Sy1 : Nat → Nat := Bt.upd S0 0 2
def Sy2 : Nat → Nat := Bt.upd Sy1 3 2
def Sy : Nat → Nat := Bt.upd Sy2 6 1
theorem Sy1_at (k : Nat) : Sy1 k = if k = 0 then 2 else 0 := rfl
theorem Sy2_at (k : Nat) : Sy2 k = if k = 3 then 2 else if k = 0 then 2 else 0 := rfl
theorem Sy_at (k : Nat) : Sy k = if k = 6 then 1 else if k = 3 then 2 else if k = 0 then 2 else 0 := rfl
/-- No word of a stretch is live where no block meets it. -/
theorem free_of15 {S : Nat → Nat} {a z : Nat} (h : ∀ b, 0 < S b → b + S b ≤ a ∨ a + z ≤ b) : Free S a z := by
  intro k h1 h2
  unfold live
  rw [bo_false]
  rintro ⟨b, hb⟩
  unfold Cov at hb
  have := h b (by omega)
  omega
theorem my1 : markT 9 S0 0 2 = (true, 0, Sy1) := mark_free (by omega) (by omega) rfl (fun k _ _ => live0 k)
theorem my2 : markT 9 Sy1 3 2 = (true, 0, Sy2) := mark_free (by omega) (by omega) rfl (free_of15 (fun b hb => by
  rw [Sy1_at] at hb ⊢
  show _ ≤ 3 ∨ 3 + 2 ≤ b
  split at hb
  · rename_i h; subst h; simp
  · omega))
theorem my3 : markT 9 Sy2 6 1 = (true, 0, Sy) := mark_free (by omega) (by omega) rfl (free_of15 (fun b hb => by
  rw [Sy2_at] at hb ⊢
  show _ ≤ 6 ∨ 6 + 1 ≤ b
  split at hb
  · rename_i h; subst h; simp
  · split at hb
    · rename_i h; subst h; simp
    · omega))
theorem mkSy : mkS 9 cs15 3 = Sy := by
  have e1 : mkS 9 cs15 1 = Sy1 := by show (markT 9 S0 0 2).2.2 = _; rw [my1]
  have e2 : mkS 9 cs15 2 = Sy2 := by show (markT 9 (mkS 9 cs15 1) 3 2).2.2 = _; rw [e1, my2]
  show (markT 9 (mkS 9 cs15 2) 6 1).2.2 = _
  rw [e2, my3]
def Ly (k : Nat) : Bool := decide (k < 2) || (decide (3 ≤ k ∧ k < 5) || decide (k = 6))
theorem liveSy : live Sy = Ly := by
  funext k
  rw [Bool.eq_iff_iff]
  unfold live Ly
  rw [bo_true, Bool.or_eq_true, Bool.or_eq_true, decide_eq_true_eq, decide_eq_true_eq, decide_eq_true_eq]
  constructor
  · rintro ⟨a, h1, h2⟩
    rw [Sy_at] at h2
    split at h2
    · omega
    · split at h2
      · omega
      · split at h2 <;> omega
  · intro h
    by_cases h1 : k < 2
    · exact ⟨0, by omega, by rw [Sy_at]; simp; omega⟩
    · by_cases h2 : k < 5
      · exact ⟨3, by omega, by rw [Sy_at]; simp; omega⟩
      · exact ⟨6, by omega, by rw [Sy_at]; simp; omega⟩
def Py : PN := ⟨0, 9, 3, 3, 6⟩
theorem bl9 : Bl 9 Sy := by have := mkS_bl 9 cs15 3; rwa [mkSy] at this
theorem edy (d e : Nat) (K : Nat) : PN.ed ⟨0, 9, 3, d, e⟩ K = min (0 + K * 3) 9 := rfl
theorem makesPy0 : Makes Sy 0 9 3 1 Py := by
  refine ⟨rfl, rfl, rfl, by rw [liveSy]; decide +kernel, 1, ⟨by decide, ?_, .inr ?_⟩, .inr ⟨fun a ha hx => ?_, rfl⟩⟩
  · rw [liveSy]; decide +kernel
  · rw [liveSy]; decide +kernel
  · have e : PN.ed Py 1 = 3 := rfl
    rw [e, Sy_at] at hx
    rw [e] at ha
    split at hx
    · omega
    · split at hx
      · omega
      · split at hx <;> omega
theorem makesPy {P : PN} (h : Makes Sy 0 9 3 1 P) : P = Py := makes_uniq bl9 h makesPy0 (by omega) (by omega) (by omega) (by omega) (noCutN bl9)
theorem fitPy : Fit Py (live Sy) := ⟨⟨by decide, by decide, by decide, by decide⟩, by decide, by decide, by rw [liveSy]; decide +kernel⟩
theorem RPy : Py.R = 3 := by decide
theorem fullPy : sm (fullR Py) 3 = 7 := by decide +kernel
theorem src3 : srcN Py Sy 3 = 3 := srcN_eq ⟨by decide, by decide, by rw [liveSy]; decide, by rw [liveSy]; decide +kernel⟩
theorem src5 : srcN Py Sy 5 = 6 := srcN_eq ⟨by decide, by decide, by rw [liveSy]; decide, by rw [liveSy]; decide +kernel⟩
end Go.Proofs.YtbmlggemheljkaaGreatDoor

/-
  awake of layer 15.
-/
namespace Go.Proofs.YtbmlggemheljkaaGreatDoor
open Go.RowKit Bt
set_option linter.unusedVariables false
set_option linter.unusedSimpArgs false

set_option maxHeartbeats 4000000 in
set_option maxRecDepth 100000 in
theorem awake15 (w : World) (hT : Tab w) :
    Calls Tryz.prog 9 #[] w fun e w' => e = .returned (.bool true) ∧ Turned [] w w' := by
  have h0 : 0 < w.heap.size := block_lt (hT 0 (by omega))
  obtain ⟨w1, hw1⟩ : ∃ w1, w1 = w.alloc (.cells #[.int .i64 0, .int .i64 2, .int .i64 3, .int .i64 2, .int .i64 6, .int .i64 1] 46) := ⟨_, rfl⟩
  have hT1 : Turned [] w w1 := by rw [hw1]; exact (Turned.refl [] w).alloc _
  have hg1 : w1.heap[w.heap.size]? = some (.cells #[.int .i64 0, .int .i64 2, .int .i64 3, .int .i64 2, .int .i64 6, .int .i64 1] 46) := by rw [hw1]; exact heap_alloc_new _ _
  have hrd : TwRd w1 (some ⟨w.heap.size, 0, none⟩) 3 cs15 := by
    refine ⟨rfl, by omega, fun i c hc => ⟨_, _, rfl, ?_⟩, fun c hc => ?_⟩
    · rw [cell_of_heap hg1, cell_of_heap hg1]
      match i, hc with
      | 0, hc => cases hc; exact ⟨rfl, rfl⟩
      | 1, hc => cases hc; exact ⟨rfl, rfl⟩
      | 2, hc => cases hc; exact ⟨rfl, rfl⟩
      | i + 3, hc => simp [cs15] at hc
    · simp only [cs15, List.mem_cons, List.not_mem_nil, or_false] at hc
      unfold In64
      rcases hc with rfl | rfl | rfl <;> simp
  have HM := hide (lmade15 (some ⟨w.heap.size, 0, none⟩) 3 3 cs15 3 1 9 w1 (by omega) (by omega) (by omega) (by omega) hrd (hT.turned hT1 (by simp)))
  rw [show min 3 60 = 3 from rfl, mkSy] at HM
  have HT1 := hide hT1
  have H0 := hide h0
  clear hg1 hrd hT1 hT h0
  go_enter Tryz.func9, Tryz.ntmps9
  go_wp2_with fail
  rw [← hw1]
  clear hw1
  refine (HM.out).mono ?_
  rintro e w2 ⟨xb, cp, cq, bp, bq, rp, rq, P, wv, l, a, wq, tq, rfl, hwd, hmem, hM, hlo, ht2⟩
  obtain rfl := makesPy hM
  have HW := hide (And.intro hwd (And.intro hmem hlo))
  have HT2 := hide (HT1.out.trans ht2)
  have HNw := hide (fun (w' : World) (tt : Turned [] w2 w') => lx_new w w2 w' xb cp cq bp bq rp rq 9 1 3 1 Sy Py wv l a wq tq hwd hmem makesPy0 bl9 hlo.2.2.2 (HT1.out.trans ht2) ⟨H0.out, by have := HT1.out.size; omega, by have := HT1.out.size; omega⟩ (by omega) (by omega) (by omega) (by omega) tt)
  have hcs : ∀ w', Turned [] w2 w' → w'.heap[xb]? = some (.cells (wdC cp wv bp rp Py l a (slc wq 3) (slc tq 3)) 41) := fun w' tt => by rw [tt.block xb (lt_of_heap hwd.head) (by simp)]; exact hwd.head
  have HCs := hide hcs
  have hT0 := (Turned.refl [] w2).drew
  have hxx := hcs _ hT0
  have HT0 := hide hT0
  obtain ⟨lo, lc, rfl⟩ : ∃ lo lc, l = .slice lo 3 lc := own_opens hwd.dpl.lv.choose_spec
  obtain ⟨ho, hc, rfl⟩ : ∃ ho hc, a = .slice ho 3 hc := own_opens hwd.dpl.ah.choose_spec
  clear hwd hmem hlo ht2 HM hcs hM hT0
  have x0 : w2.drew.cell? ⟨xb, 0, none⟩ = some (.pointer (some ⟨cp, 0, none⟩)) := by rw [cell_of_heap hxx]; rfl
  have x2 : w2.drew.cell? ⟨xb, 2, none⟩ = some (.pointer (some ⟨bp, 0, none⟩)) := by rw [cell_of_heap hxx]; rfl
  have x4 : w2.drew.cell? ⟨xb, 4, none⟩ = some (.int .i64 0) := by rw [cell_of_heap hxx]; rfl
  have x5 : w2.drew.cell? ⟨xb, 5, none⟩ = some (.int .i64 9) := by rw [cell_of_heap hxx]; rfl
  have x6 : w2.drew.cell? ⟨xb, 6, none⟩ = some (.int .i64 3) := by rw [cell_of_heap hxx]; rfl
  have x7 : w2.drew.cell? ⟨xb, 7, none⟩ = some (.int .i64 3) := by rw [cell_of_heap hxx]; rfl
  have x8 : w2.drew.cell? ⟨xb, 8, none⟩ = some (.int .i64 6) := by rw [cell_of_heap hxx]; rfl
  have x9 : w2.drew.cell? ⟨xb, 9, none⟩ = some (.slice lo 3 lc) := by rw [cell_of_heap hxx]; rfl
  have x10 : w2.drew.cell? ⟨xb, 10, none⟩ = some (.slice ho 3 hc) := by rw [cell_of_heap hxx]; rfl
  have x11 : w2.drew.cell? ⟨xb, 11, none⟩ = some (.slice (some ⟨wq, 0, none⟩) 3 3) := by rw [cell_of_heap hxx]; rfl
  have x12 : w2.drew.cell? ⟨xb, 12, none⟩ = some (.slice (some ⟨tq, 0, none⟩) 3 3) := by rw [cell_of_heap hxx]; rfl
  clear hxx
  have HNw2 : Hid (∀ w', Turned [] w2 w' → Calls Tryz.prog 12 #[.pointer (some ⟨cp, 0, none⟩), .pointer (some ⟨bp, 0, none⟩), .agg #[.int .i64 0, .int .i64 9, .int .i64 3, .int .i64 3, .int .i64 6, .slice lo 3 lc, .slice ho 3 hc, .slice (some ⟨wq, 0, none⟩) 3 3, .slice (some ⟨tq, 0, none⟩) 3 3], .int .i64 1] w' fun e w'' => ∃ (J : LI) (sb : Nat) (v m : Value), e = .returned (.tuple #[.pointer (some ⟨sb, 0, none⟩), .int .i64 0]) ∧ Ls J w'' zeroU (startS Py Sy (words15 9) 0 1) v m ∧ J.Is sb xb cp rp 9 1 Py Sy wv (.slice lo 3 lc) (.slice ho 3 hc) wq tq ∧ J.w0 = w ∧ w'.heap.size ≤ sb ∧ Turned [] w' w'') := HNw
  clear HNw
  go_wp2_with fail
  go_region_held3 (fun w' => w'.cell? ⟨xb, 0, none⟩ = some (.pointer (some ⟨cp, 0, none⟩)) ∧ w'.cell? ⟨xb, 2, none⟩ = some (.pointer (some ⟨bp, 0, none⟩)) ∧ w'.cell? ⟨xb, 4, none⟩ = some (.int .i64 0) ∧ w'.cell? ⟨xb, 5, none⟩ = some (.int .i64 9) ∧ w'.cell? ⟨xb, 6, none⟩ = some (.int .i64 3) ∧ w'.cell? ⟨xb, 7, none⟩ = some (.int .i64 3) ∧ w'.cell? ⟨xb, 8, none⟩ = some (.int .i64 6) ∧ w'.cell? ⟨xb, 9, none⟩ = some (.slice lo 3 lc) ∧ w'.cell? ⟨xb, 10, none⟩ = some (.slice ho 3 hc) ∧ w'.cell? ⟨xb, 11, none⟩ = some (.slice (some ⟨wq, 0, none⟩) 3 3) ∧ w'.cell? ⟨xb, 12, none⟩ = some (.slice (some ⟨tq, 0, none⟩) 3 3)) (go_keep)
    (first
      | (go_at_call 12; refine (HNw2.out _ HT0.out).mono ?_; rintro e w3 ⟨J, sb, v, m, rfl, hl, hj, hj0, hsz, ht3⟩; have y0 : w3.cell? ⟨xb, 0, none⟩ = some (.pointer (some ⟨cp, 0, none⟩)) := (by rw [ht3.cell (block_lt x0) (by simp)]; exact x0); have y2 : w3.cell? ⟨xb, 2, none⟩ = some (.pointer (some ⟨bp, 0, none⟩)) := (by rw [ht3.cell (block_lt x2) (by simp)]; exact x2); have y4 : w3.cell? ⟨xb, 4, none⟩ = some (.int .i64 0) := (by rw [ht3.cell (block_lt x4) (by simp)]; exact x4); have y5 : w3.cell? ⟨xb, 5, none⟩ = some (.int .i64 9) := (by rw [ht3.cell (block_lt x5) (by simp)]; exact x5); have y6 : w3.cell? ⟨xb, 6, none⟩ = some (.int .i64 3) := (by rw [ht3.cell (block_lt x6) (by simp)]; exact x6); have y7 : w3.cell? ⟨xb, 7, none⟩ = some (.int .i64 3) := (by rw [ht3.cell (block_lt x7) (by simp)]; exact x7); have y8 : w3.cell? ⟨xb, 8, none⟩ = some (.int .i64 6) := (by rw [ht3.cell (block_lt x8) (by simp)]; exact x8); have y9 : w3.cell? ⟨xb, 9, none⟩ = some (.slice lo 3 lc) := (by rw [ht3.cell (block_lt x9) (by simp)]; exact x9); have y10 : w3.cell? ⟨xb, 10, none⟩ = some (.slice ho 3 hc) := (by rw [ht3.cell (block_lt x10) (by simp)]; exact x10); have y11 : w3.cell? ⟨xb, 11, none⟩ = some (.slice (some ⟨wq, 0, none⟩) 3 3) := (by rw [ht3.cell (block_lt x11) (by simp)]; exact x11); have y12 : w3.cell? ⟨xb, 12, none⟩ = some (.slice (some ⟨tq, 0, none⟩) 3 3) := (by rw [ht3.cell (block_lt x12) (by simp)]; exact x12); have HL := hide hl; have HJ := hide hj; have HJ0 := hide hj0; clear hl hj hj0 hsz ht3))
  clear y0 y2 y4 y5 y6 y7 y8 y9 y10 y11 y12 x0 x2 x4 x5 x6 x7 x8 x9 x10 x11 x12 HNw2 HT0 HCs HW HT2
  have H7 := hide fullPy
  have hR0 : Hid (RI Py Sy zeroU (startS Py Sy (words15 9) 0 1)) := hide (RI.start fitPy _ _ _)
  have hS0 : Hid (sm zeroU 3 = 0) := hide rfl
  have hL0 : Hid ((startS Py Sy (words15 9) 0 1).left ≠ 0) := hide (fun h => by
    have h1 := (lx_si HL.out HJ.out).1
    have h2 := (h1.done_iff fitPy).1 h
    have h3 : sm zeroU 3 = sm (fullR Py) 3 := sm_congr (fun j _ => h2 j)
    rw [H7.out, hS0.out] at h3
    cases h3)
  obtain ⟨s0, hs0⟩ : ∃ s0, s0 = startS Py Sy (words15 9) 0 1 := ⟨_, rfl⟩
  rw [← hs0] at HL hR0 hL0
  clear hs0
  generalize zeroU = u0 at *
  go_wp2_with fail
  go_loopg [4] 40 (fun gg s4 wr => ∃ (j : Nat) (u : Nat → Nat) (s : SlS) (v m : Value), gg = 40 - j ∧ j ≤ 7 ∧ s4 = .int .i64 (j : Int) ∧ Hid (Ls J wr u s v m) ∧ Hid (RI Py Sy u s) ∧ Hid (sm u 3 = j) ∧ Hid (s.left ≠ 0))
  case atStart => exact ⟨0, u0, s0, v, m, rfl, by omega, rfl, HL, hR0, hS0, hL0⟩
  case round =>
    clear HL hR0 hS0 hL0
    obtain ⟨j, u, s, v, m, rfl, hj, rfl, HL, HR, HS, HLf⟩ := hrel
    obtain ⟨w4, hw4⟩ : ∃ w4, w4 = wr := ⟨_, rfl⟩
    subst hw4
    have hji : (j : Int) < 40 := by omega
    have HSt := hide (lx_step1 HL.out HJ.out HR.out HLf.out)
    obtain ⟨s', hs'⟩ : ∃ s', s' = stepSl Py Sy s 0 := ⟨_, rfl⟩
    rw [← hs'] at HSt
    unfold toldS at HSt
    clear hs' HL HR HLf
    by_cases hl : s'.left = 0
    · rw [if_pos hl] at HSt
      have HLf := hide hl
      clear hl
      go_wp2_with fail
      refine (HSt.out).mono ?_
      rintro e w5 ⟨u5, v5, m5, rfl, h5, r5, e5⟩
      have HL5 := hide h5
      have HR5 := hide r5
      clear h5 r5 e5 HSt HS
      have hend := (lx_si HL5.out HJ.out).1.end_ fitPy HLf.out
      have hsi := (lx_si HL5.out HJ.out).1
      have hml : s'.mv.length = 3 := hend.2.1
      have hm2 : s'.mv[2]? = some (6, 5) := by
        have := HR5.out.r2 2 (by omega)
        rw [show Py.d + 2 = 5 from rfl, src5] at this
        exact this
      have HW5 : Hid (s'.hw[5]? = some 1042) := hide (by
        rw [hsi.hw 5, if_pos ((hend.1 5).2 (by decide)), src5]; rfl)
      have HW3 : Hid (s'.hw[3]? = some 1021) := hide (by
        rw [hsi.hw 3, if_pos ((hend.1 3).2 (by decide)), src3]; rfl)
      have HMv := hide (lx_moves HL5.out HJ.out)
      rw [hml] at HMv
      have HM2 := hide hm2
      clear hend hsi hml hm2 HR5
      go_wp2_with fail
      refine (HMv.out).mono ?_
      rintro e w6 ⟨mo, mc, rfl, hrd, -, t6⟩
      obtain ⟨mb, moff, rfl, cm0, cm1⟩ := hrd.cell 2 (6, 5) (by unfold mvI; rw [List.getElem?_map, HM2.out]; rfl)
      have HL6 := hide (HL5.out.quiet t6)
      have HWo := hide (lx_words HL6.out HJ.out (by omega))
      have hh6 := (lx_wd HL6.out HJ.out).head
      have c60 : w6.cell? ⟨xb, 0, none⟩ = some (.pointer (some ⟨cp, 0, none⟩)) := by rw [cell_of_heap hh6]; rfl
      have HCm := hide (And.intro cm0 cm1)
      clear hrd t6 HMv hh6 cm0 cm1 HL5
      go_wp2_with fail
      refine (HWo.out).mono ?_
      rintro e w7 ⟨g, gcap, rfl, -, hgc, -, t7⟩
      have HL7 := hide (HL6.out.quiet t7)
      have k5 := hgc 5 1042 HW5.out
      have k3 := hgc 3 1021 HW3.out
      have km0 : w7.cell? ⟨mb, moff + 2 * 2, none⟩ = some (.int .i64 6) := by rw [t7.cell (block_lt HCm.out.1) (by simp)]; exact HCm.out.1
      have km1 : w7.cell? ⟨mb, moff + 2 * 2 + 1, none⟩ = some (.int .i64 5) := by rw [t7.cell (block_lt HCm.out.2) (by simp)]; exact HCm.out.2
      have hwd7 := lx_wd HL7.out HJ.out
      obtain ⟨B, hrow, -⟩ := hwd7.row
      obtain ⟨gw, gwc, rfl, -, -, hgw⟩ := own_words (by omega) hrow
      have q6 : w7.cell? ⟨gw, 6, none⟩ = some (.int .i64 1042) := by have := hgw 6 1042 rfl; rwa [Nat.zero_add] at this
      have q3 : w7.cell? ⟨gw, 3, none⟩ = some (.int .i64 1021) := by have := hgw 3 1021 rfl; rwa [Nat.zero_add] at this
      have c71 : w7.cell? ⟨xb, 1, none⟩ = some (.slice (some ⟨gw, 0, none⟩) 9 gwc) := by rw [cell_of_heap hwd7.head]; rfl
      have c77 : w7.cell? ⟨xb, 7, none⟩ = some (.int .i64 3) := by rw [cell_of_heap hwd7.head]; rfl
      have HDn := hide (fun mm : Nat => lx_done (HL7.out.quiet ((Turned.refl [] w7).drewN mm)) HJ.out)
      rw [decide_eq_true HLf.out] at HDn
      have heq := two_eql 6 5 6 5
      have hgd := fun x y => two_guard .eql x y 6 5 6 5
      have HT7 := hide HL7.out.t_
      clear t7 hgc HCm HWo hwd7 hrow hgw HL6 HW5 HW3 HM2 HLf c60
      go_wp2_with fail
      go_quiet ((go_at_call 13; exact Calls.quiet_of_same (HDn.out _)))
      go_wp2_with fail
      go_ret
      exact ⟨rfl, by rw [← HJ0.out]; exact HT7.out.trans ((Turned.refl [] w7).drewN _)⟩
    · rw [if_neg hl] at HSt
      have HLf := hide hl
      clear hl
      go_wp2_with fail
      refine (HSt.out).mono ?_
      rintro e w5 ⟨u5, v5, m5, rfl, h5, r5, e5⟩
      have HL5 := hide h5
      have HR5 := hide r5
      have HS5 : Hid (sm u5 3 = j + 1) := hide (e5.trans (by rw [RPy, HS.out]))
      have hj7 : j + 1 ≤ 7 := by
        have h6 := (lx_si h5 HJ.out).1.sm_le
        rw [RPy, HS5.out, H7.out] at h6
        exact h6
      clear h5 r5 e5 HSt HS
      go_wp2_with fail
      go_roundg (40 - (j + 1))
      case measure => omega
      case rel => exact ⟨j + 1, u5, s', v5, m5, rfl, hj7, by go_num, HL5, HR5, HS5, HLf⟩
end Go.Proofs.YtbmlggemheljkaaGreatDoor

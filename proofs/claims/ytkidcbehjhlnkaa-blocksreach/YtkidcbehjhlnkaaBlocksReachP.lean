/-
  What serves BlocksReach: 'in', what is told grows with the roots.
-/
import Derived.Test.YtkidcbehjhlnkaaBlocksHeapW
namespace Go.Proofs.Ytkidcbehjhlnkaa
open Go.RowKit Go.Maps
set_option linter.unusedVariables false

theorem in_any (ao : Option Addr) (len cap : Nat) (l : List Int) (n : Int) (w : World) (h : IRd w ao len l) :
    Calls Try.prog 24 #[.slice ao len cap, .int .i64 n] w fun e w' => e = .returned (.bool (decide (n ∈ l))) ∧ w' = w := by
  have H := hide h
  have hroom := h.room
  obtain ⟨d, hd⟩ : ∃ d, d = decide (n ∈ l) := ⟨_, rfl⟩
  rw [← hd]
  have HD := hide hd
  clear h hd
  go_enter Try.func24, Try.ntmps24
  go_wp2_with fail
  go_loop [5] (fun i => ∃ k : Nat, k ≤ len ∧ i = .int .i64 k ∧ Hid (∀ x, x ∈ l.take k → x ≠ n)) (fun i => len - (intOf i).toNat)
  case atStart => exact ⟨0, Nat.zero_le _, rfl, fun x hx => (by simp at hx)⟩
  case round =>
    obtain ⟨k, hk, rfl, HN⟩ := hrel
    by_cases hlt : k < len
    · obtain ⟨y, hy⟩ : ∃ y, l[k]? = some y := ⟨_, List.getElem?_eq_getElem (by rw [H.out.size]; exact hlt)⟩
      obtain ⟨b, off, rfl, hc⟩ := H.out.cell k y hy
      have HY := hide hy
      clear hy
      by_cases hyn : y = n
      · subst hyn
        go_wp2_with fail
        go_ret
        have := HD.out
        rw [decide_eq_true (List.mem_of_getElem? HY.out)] at this
        subst this
        exact ⟨rfl, rfl⟩
      · have hyb : (y == n) = false := by simpa using hyn
        go_wp2_with fail
        go_round
        case rel =>
          refine ⟨k + 1, by omega, by go_num, fun x hx => ?_⟩
          rw [take_snocL HY.out] at hx
          rcases List.mem_append.1 hx with h1 | h1
          · exact HN.out x h1
          · simp at h1; rw [h1]; exact hyn
        case measure => simp [intOf]; omega
    · go_wp2_with fail
      go_ret
      have h1 := HD.out
      rw [decide_eq_false (fun hm => HN.out n (by rw [List.take_of_length_le (by rw [H.out.size]; omega)]; exact hm) rfl)] at h1
      subst h1
      exact ⟨rfl, rfl⟩

/-- A list that is told, as a slice that can be read. -/
theorem told_ird {w : World} {B : Nat} {v : Value} {n : Nat} {l : List Int} (h : w.ownsRow B 3 1 v n (l.map (Value.int .i64))) (hn : n ≤ 65536) (hi : AllIn l) : ∃ ao cap, v = .slice ao n cap ∧ IRd w ao n l ∧ ∀ a, ao = some a → B ≤ a.block := by
  obtain ⟨hl, ao, cap, hv, hc⟩ := ownsRow_any h
  have hl2 : l.length = n := by simpa using hl
  refine ⟨ao, cap, hv, ⟨hl2, by omega, fun i x hx => ?_, hi⟩, fun a ha => ?_⟩
  case refine_2 =>
    subst ha hv
    rcases h.2 with ⟨h0, _⟩ | ⟨g, cp, cur, h0, hg, _⟩
    · cases h0
    · injection h0 with h0
      injection h0 with h0
      rw [h0]
      exact hg
  obtain ⟨g, h1, -, -, h2, -⟩ := hc i (.int .i64 x) (by rw [List.getElem?_map, hx]; rfl)
  exact ⟨g, 0, h1, by rw [Nat.zero_add]; exact h2⟩
theorem told64_ird {w : World} {B : Nat} {v : Value} {n : Nat} {l : List Int} (h : w.ownsRow B 2 1 v n (l.map (Value.int .i64))) (hn : n ≤ 65536) (hi : AllIn l) : ∃ ao cap, v = .slice ao n cap ∧ IRd w ao n l := by
  obtain ⟨hl, ao, cap, hv, hc⟩ := ownsInts_any h
  refine ⟨ao, cap, hv, hl, by omega, fun i x hx => ?_, hi⟩
  obtain ⟨g, h1, -, -, h2, -⟩ := hc i x hx
  exact ⟨g, 0, h1, by rw [Nat.zero_add]; exact h2⟩

theorem toldOf_mem {bs : List Blk} {R : List Int} {x : Int} : x ∈ toldOf bs R ↔ ∃ b, b ∈ bs ∧ b.t ∈ R ∧ x = b.t := by
  unfold toldOf
  constructor
  · intro h
    obtain ⟨b, hb, rfl⟩ := List.mem_map.1 h
    obtain ⟨h1, h2⟩ := List.mem_filter.1 hb
    exact ⟨b, h1, of_decide_eq_true h2, rfl⟩
  · rintro ⟨b, h1, h2, rfl⟩
    exact List.mem_map.2 ⟨b, List.mem_filter.2 ⟨h1, decide_eq_true h2⟩, rfl⟩
theorem toldOf_grow (bs : List Blk) {R S : List Int} (h : ∀ x, x ∈ R → x ∈ S) : (toldOf bs R).length ≤ (toldOf bs S).length := by
  unfold toldOf
  rw [List.length_map, List.length_map]
  induction bs with
  | nil => simp
  | cons b bs ih =>
    by_cases h1 : b.t ∈ R
    · have h2 := h _ h1
      simp only [List.filter_cons, h1, h2, decide_true, if_true, List.length_cons]
      omega
    · by_cases h2 : b.t ∈ S
      · simp [h1, h2]
        omega
      · simp [h1, h2]
        exact ih

theorem IRd.grown {w w' : World} {ao : Option Addr} {len : Nat} {l : List Int} {o : Obj} {row : Option Nat} (h : IRd w ao len l) (hg : (w.alloc o).grownBy w' row) (hn : ∀ a, ao = some a → some a.block ≠ row) : IRd w' ao len l := by
  refine ⟨h.size, h.room, fun i x hx => ?_, h.inn⟩
  obtain ⟨b, off, h0, h1⟩ := h.cell i x hx
  refine ⟨b, off, h0, ?_⟩
  have hb := block_lt h1
  have h2 : w'.heap[b]? = w.heap[b]? := by
    rw [hg.block b (by simp; have : b < w.heap.size := hb; omega) (hn _ h0)]
    exact Below.heap_alloc _ _ _ hb
  rw [World.cell?_of_block (w := w) h2]
  exact h1
/-- What Reach tells of roots that are objects. -/
theorem Heaped.reach {L : List Int} {top : Int} {bs : List Blk} (h : Heaped L top bs) {p q g : Nat} {w : World} (hM : Mem w p q L 0) (hc : CRd w (some ⟨g, 0, none⟩) 3 threeCs) (ro : Option Addr) (rn rcap : Nat) (rs : List Int) (hi : IRd w ro rn rs) (hr : ∀ r, r ∈ rs → ∃ b, b ∈ bs ∧ r = b.t) :
    Calls Try.prog 20 #[.pointer (some ⟨p, 0, none⟩), .slice (some ⟨g, 0, none⟩) 3 3, .int .i64 1, .int .i64 500, .slice ro rn rcap] w fun e w' => ∃ ao cap R, e = .returned (.tuple #[.slice ao (toldOf (bs ++ tailOf top) R).length cap, .int .i64 0]) ∧ IRd w' ao (toldOf (bs ++ tailOf top) R).length (toldOf (bs ++ tailOf top) R) ∧ (∀ x, x ∈ R ↔ Rch (objOf (bs ++ tailOf top)) (refWords L threeCs) rs x) ∧ Turned [] w w' ∧ ∀ a, ao = some a → w.heap.size ≤ a.block := by
  have hf := walkOf_facts (by omega) h.walk
  refine (reach_in _ L _ 3 3 threeCs 1 500 ro rn rcap rs (bs ++ tailOf top) w (by rw [h.chain.len]; omega) h.chain.inn hM.any hc hi (by rw [h.chain.len]; omega) h.walk).mono ?_
  rintro e w' ⟨ht, ⟨-, hlo⟩ | ⟨v, R, rfl, hown, hR, -⟩⟩
  · exact absurd hlo (h.found hr)
  · have hn : (toldOf (bs ++ tailOf top) R).length ≤ 65536 := by
      have h1 := toldOf_length (bs ++ tailOf top) R
      have h2 := hf.few
      omega
    obtain ⟨ao, cap, rfl, hird, hblk⟩ := told_ird hown hn (fun x hx => by
      obtain ⟨b, h1, _, rfl⟩ := toldOf_mem.1 hx
      have h2 := hf.each b h1
      have h3 := readOf_some h2.2.2
      unfold In64
      omega)
    exact ⟨ao, cap, R, rfl, hird, hR, ht, hblk⟩
end Go.Proofs.Ytkidcbehjhlnkaa

/-
  Texts of the proof, several in one: MarkLaid.
-/
import Derived.Test.YtgbclfhgpkmcnaaGreatDoorPack5
import Derived.Test.YtgbclfhgpkmcnaaGreatDoorPack8
import Derived.LaidMore
import Derived.Lib.LaidTab
import Derived.Stop.Joined
/-
  What the row's listed variable gives the walks: the library's table lies in block 0.
-/
namespace Go.Proofs.YtgbclfhgpkmcnaaGreatDoor
open Go.ChangeShapes Go.WideShapes Go.ChangeAt Go.RowKit

theorem gTab : Tryz.prog.globalNamed "math/bits.deBruijn64tab" = some 0 := by kernel_rfl
theorem tTab : (Tryz.prog.globals[0]?).map (·.type) = some 147 := by kernel_rfl
def laidTab : List (String × DataW Unit) := [("math/bits.deBruijn64tab", Rows.laid_math_bits_deBruijn64tab)]
theorem door_met (os : Os) (args : Array Value) : laidMetH Tryz.prog laidTab ((World.doorLaid Tryz.prog 400 os).forCall (fun _ _ => 0) ⟨#[], args, []⟩).memory :=
  laidMetH_of_parts3 (fuel := 8) (laidMet_of_run' 8 (by kernel_rfl) (by kernel_rfl)) (by kernel_rfl) (by kernel_rfl)
theorem laid_is : Rows.laid_math_bits_deBruijn64tab (H := Unit) = Lib.tabData .u8 (Lib.deBruijn64tab.map fun (z : Nat) => (z : Int)) := by kernel_rfl
theorem tab_of {W : World} (h : laidMetH Tryz.prog laidTab W) : Bt.Tab W := by
  rw [MakeChecks.laidMetH_plain _ _ _ (by kernel_rfl)] at h
  unfold laidTab at h
  rw [laid_is] at h
  have h1 := Lib.tabIs_of_head gTab tTab Tryz.underlying147 Tryz.underlying5 (by kernel_rfl) (by kernel_rfl) h
  unfold Lib.TabIs at h1
  intro j hj
  have h2 := World.var?_cell gTab h1 j
  rw [h2]
  have hl : Lib.deBruijn64tab.length = 64 := by decide
  simp only [List.map_map, List.getElem?_toArray, List.getElem?_map]
  rw [List.getElem?_eq_getElem (by omega), List.getD_eq_getElem?_getD, List.getElem?_eq_getElem (by omega)]
  rfl
end Go.Proofs.YtgbclfhgpkmcnaaGreatDoor

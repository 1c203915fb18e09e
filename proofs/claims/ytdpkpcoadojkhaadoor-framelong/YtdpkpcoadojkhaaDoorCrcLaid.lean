/-
  From the rows' condition (the table of chapter 2 reads as its initialiser lays it) to what the walks ask.
-/
import Derived.Test.YtdpkpcoadojkhaaDoorCrcW
import Derived.LaidMore
import Derived.MakeChecks
import Derived.Lib.LaidTab
namespace Go.Proofs.YtdpkpcoadojkhaaDoor
open Go.RowKit

def halvesZ : List Int := [0, 274646895, 549293790, 820201905, 1098587580, 1361435347, 1640403810, 1905808397, 2197175160, 2460548119, 2722870694, 2987750089, 3280807620, 3553878443, 3811616794, 4084100981]
theorem halvesZ_tab : ∀ m, m < 16 → halvesZ.getD m 0 = ((Crc.tab m : Nat) : Int) := by decide +kernel
theorem tab_of_laid {W : World} (h : laidMetH Tryd.prog Rows.frameTellsRow.laid W) : Tab W := by
  rw [MakeChecks.laidMetH_plain _ _ _ (by kernel_rfl)] at h
  have h' : laidMet Tryd.prog ((_, Lib.tabData .u32 halvesZ) :: []) W := h
  have hT := Lib.tabIs_of_head (P := Tryd.prog) (W := W) (k := .u32) (zs := halvesZ) (rest := []) (g := 0) (t := 68) (e := 57) (n := 16)
    (by kernel_rfl) (by kernel_rfl) Tryd.underlying68 Tryd.underlying57 (by kernel_rfl) (by kernel_rfl) h'
  intro m hm
  rw [hT.cell (g := 0) (by kernel_rfl) m (by simpa [halvesZ] using hm), halvesZ_tab m hm]
end Go.Proofs.YtdpkpcoadojkhaaDoor

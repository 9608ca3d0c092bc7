/- What a row's list of laid variables gives: the table of powers of ten too. -/
import Derived.Test.YtopcgnjocklcoaaGreatDoorCLawVars
import Derived.Test.YtopcgnjocklcoaaGreatDoorGEncT
import Derived.Lib.LaidTab
namespace Go.Proofs.YtopcgnjocklcoaaGreatDoor
open Go.ChangeShapes Go.WideShapes Go.ChangeAt Go.RowKit Go.Deep

theorem tTab : (Tryz.prog.globals[0]?).map (·.type) = some 250 := by kernel_rfl
theorem cellsTab : Tryz.prog.cellsOf 250 = 20 := by kernel_rfl
theorem cellsU64 : Tryz.prog.cellsOf 113 = 1 := by kernel_rfl
/-- the library's variables, if they are listed -/
theorem env_in {W : World} {l : List (String × DataW Unit)} {s1 s2 : String} {d1 d2 : DataW Unit} (h : laidMet Tryz.prog l W) (h1 : ("strconv.ErrSyntax", DataW.iface s1 d1) ∈ l) (h2 : ("strconv.ErrRange", DataW.iface s2 d2) ∈ l) (h3 : ("internal/strconv.uint64pow10", Lib.tabData .u64 Lib.pow10Tab) ∈ l) : Env W := by
  have hv := vars_in h h1 h2
  obtain ⟨ps, hl, _⟩ := h
  obtain ⟨g', t', cs, fuel, p, e1, e2, e3, e4⟩ := laid_mem hl _ h3
  obtain rfl := Option.some.inj (gTab.symm.trans e1)
  obtain rfl := Option.some.inj (tTab.symm.trans e2)
  have hcs := Lib.cells_of_tab Tryz.underlying250 Tryz.underlying113 cellsU64 cellsTab e4
  have hc := World.var?_cell e1 e3 0
  refine ⟨hv, ?_, ?_⟩
  · unfold Lib.TabIs
    rw [e3, ← hcs]
  · have hc1 : W.cell? ⟨0, 0, none⟩ = some (.int .u64 1) := by rw [hc, ← Array.getElem?_toList, hcs]; rfl
    exact World.block_lt_of_cell? _ _ hc1
theorem Env.own {w : World} (h : Env w) : ∀ cb, w.heap.size ≤ cb → Own cb := fun cb hcb => by
  have h1 := h.v.lt1
  have h2 := h.v.lt2
  have h3 := h.lt
  exact ⟨by omega, by omega, by omega⟩
end Go.Proofs.YtopcgnjocklcoaaGreatDoor

/- Forgotten without memory: every run, by reckoning. -/
import Derived.Test.YtolfcabodiphmaaGreatDoorV33
set_option linter.unusedSimpArgs false
set_option linter.unusedVariables false
namespace Go.Proofs.YtolfcabodiphmaaGreatDoor
set_option maxRecDepth 1000000
def Es(W n:Nat):Bool:=(WP.Zn W n).isSome&&(List.range 5).all fun t=>(WP.Zm W n (t+3)).isSome
theorem akt:((List.range 1).all fun n=>Es 1 (n+1))=true:=by decide +kernel
theorem aku:((List.range 2).all fun n=>Es 2 (n+1))=true:=by decide +kernel
theorem akv:((List.range 3).all fun n=>Es 3 (n+1))=true:=by decide +kernel
theorem akw:((List.range 4).all fun n=>Es 4 (n+1))=true:=by decide +kernel
theorem akx:((List.range 5).all fun n=>Es 5 (n+1))=true:=by decide +kernel
theorem aky:((List.range 6).all fun n=>Es 6 (n+1))=true:=by decide +kernel
theorem akz:((List.range 7).all fun n=>Es 7 (n+1))=true:=by decide +kernel
theorem akA:((List.range 8).all fun n=>Es 8 (n+1))=true:=by decide +kernel
theorem runs{W n t:Nat}(h1:1≤W)(h2:W≤8)(h3:1≤n)(h4:n≤W)(h5:3≤t)(h6:t≤7):(∃ r,WP.Zn W n=some r)∧∃ r,WP.Zm W n t=some r:=by
 have key:((List.range W).all fun n=>Es W (n+1))=true→(∃ r,WP.Zn W n=some r)∧∃ r,WP.Zm W n t=some r:=fun h=>by
  have h7:=List.all_eq_true.1 h (n-1) (List.mem_range.2 (by omega))
  rw[show n-1+1=n by omega] at h7
  unfold Es at h7
  rw[Bool.and_eq_true] at h7
  have h8:=List.all_eq_true.1 h7.2 (t-3) (List.mem_range.2 (by omega))
  rw[show t-3+3=t by omega] at h8
  exact⟨Option.isSome_iff_exists.1 h7.1,Option.isSome_iff_exists.1 h8⟩
 rcases(by omega:W=1∨W=2∨W=3∨W=4∨W=5∨W=6∨W=7∨W=8) with rfl | rfl | rfl | rfl | rfl | rfl | rfl | rfl
 ·exact key akt
 ·exact key aku
 ·exact key akv
 ·exact key akw
 ·exact key akx
 ·exact key aky
 ·exact key akz
 ·exact key akA
end Go.Proofs.YtolfcabodiphmaaGreatDoor

/- Package courierref's cursor: text. -/
import Derived.Test.YtdgcamlmjmnpeaaGreatDoorMEncA
namespace Go.Proofs.YtdgcamlmjmnpeaaGreatDoor
open Go.RowKit
theorem quoteB:(ByteArray.mk #[34]).toList = [34]:=by rw [ByteArray.toList_eq]
theorem Bys.but {w w':World} {lo cb o:Nat} {v:Value} {L:List UInt8} {T:TypeId} {ys:List Value} (h:Bys w lo v L) (hc:Seg w cb T o ys) (hT:5 ≠ T) (hb:But cb w w'):Bys w' lo v L :=
 own_same h (fun g hg=>hb.block g (h.lt g hg).2 (own_seg_ne h hc hT hg))
theorem But.grew {w0 w wx w':World} {cb:Nat} {v v':Value} {L:List UInt8} (h:But cb w0 w) (hb:Below w.heap.size w wx) (hB:Bys w w0.heap.size v L) (hg:Grew wx w' v v'):But cb w0 w':=by
 have h1:=h.trans (But.ofBelow hb)
 refine ⟨hg.g.os.trans h1.os,hg.g.tape.trans h1.tape,hg.g.output.trans h1.output,Nat.le_trans h1.size hg.g.size,fun k hk hne=>?_⟩
 rw [hg.g.block k (Nat.lt_of_lt_of_le hk h1.size) (fun e=>by have:=(hB.lt k e.symm).1;omega)]
 exact h1.block k hk hne
end Go.Proofs.YtdgcamlmjmnpeaaGreatDoor

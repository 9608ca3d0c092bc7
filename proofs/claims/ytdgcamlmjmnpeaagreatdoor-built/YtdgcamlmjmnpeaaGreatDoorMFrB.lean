/- A deframer in memory, and one byte more for it. -/
import Derived.Test.YtdgcamlmjmnpeaaGreatDoorMFrA
import Derived.Deep.MidRow
import Derived.Deep.RegionWith
namespace Go.Proofs.YtdgcamlmjmnpeaaGreatDoor
open Go.RowKit
theorem cell_row {w:World} {b:Nat} {cur:Array Value} {T:TypeId} (h:w.heap[b]? = some (.cells cur T (0,0))) (i:Nat):w.cell? ⟨b,i,none⟩ = cur.toList[i]?:=by
 rw [cell_of_row w b i cur T (0,0) h];simp
theorem frozen_row {w:World} {b:Nat} {cur:Array Value} {T:TypeId} (h:w.heap[b]? = some (.cells cur T (0,0))) (i:Nat):w.frozen? ⟨b,i,none⟩ = false:=by
 simp [World.frozen?,h]
theorem Bys.grown {w w':World} {lo b:Nat} {v:Value} {L:List UInt8} (h:Bys w lo v L) (hg:w.grownBy w' (some b)) (hb:b < lo):Bys w' lo v L :=
 own_same h (fun g hg'=>hg.block g (h.lt g hg').2 (fun e=>by have:=(h.lt g hg').1;cases e;omega))
end Go.Proofs.YtdgcamlmjmnpeaaGreatDoor
namespace Go.Proofs.YtdgcamlmjmnpeaaGreatDoor
open Go.RowKit
end Go.Proofs.YtdgcamlmjmnpeaaGreatDoor
namespace Go.Proofs.YtdgcamlmjmnpeaaGreatDoor
open Go.RowKit
def pickN (c:Int) (n:Nat):Nat:=((if c < 0 then -(c + 1) else c) % n).toNat
theorem mod_lt {a:Int} {n:Nat} (h:0 < n):0 ≤ a % (n:Int) ∧ a % (n:Int) < n:=⟨Int.emod_nonneg _ (by omega),Int.emod_lt_of_pos _ (by omega)⟩
theorem pickN_lt (c:Int) {n:Nat} (h:0 < n):pickN c n < n:=by
 unfold pickN
 have:=mod_lt (a:=if c < 0 then -(c + 1) else c) h
 omega
theorem pickN_neg {c:Int} {n:Nat} (h0:0 < n) (h:c < 0):((pickN c n:Nat):Int) = -((c + 1).tmod n):=by
 unfold pickN
 rw [if_pos h,← Int.neg_tmod,Int.tmod_eq_emod_of_nonneg (by omega)]
 have:=mod_lt (a:=-(c + 1)) h0
 omega
theorem pickN_pos {c:Int} {n:Nat} (h0:0 < n) (h:¬ c < 0):((pickN c n:Nat):Int) = c % n:=by
 unfold pickN
 rw [if_neg h]
 have:=mod_lt (a:=c) h0
 omega
end Go.Proofs.YtdgcamlmjmnpeaaGreatDoor
namespace Go.Proofs.YtdgcamlmjmnpeaaGreatDoor
open Go.RowKit
end Go.Proofs.YtdgcamlmjmnpeaaGreatDoor
namespace Go.Proofs.YtdgcamlmjmnpeaaGreatDoor
open Go.RowKit
end Go.Proofs.YtdgcamlmjmnpeaaGreatDoor

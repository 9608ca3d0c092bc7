/- Package courierref: numbers and pieces that are taken from bytes. -/
import Derived.Test.YtdgcamlmjmnpeaaGreatDoorMDecA
namespace Go.Proofs.YtdgcamlmjmnpeaaGreatDoor
open Go.RowKit
theorem RdC.head {w:World} {b o c:Nat} {L:List UInt8} (h:RdC w (.slice (some ⟨b,o,none⟩) L.length c) L) (j:Nat) (hj:j ≤ L.length) (h0:0 < L.length):RdC w (.slice (some ⟨b,o,none⟩) j c) (L.take j):=by
 obtain ⟨b',o',c',hv,_,hcell⟩:=h.1.at h0
 obtain ⟨⟨rfl,rfl⟩,rfl⟩:(b = b' ∧ o = o') ∧ c = c':=by simpa using hv
 obtain ⟨a,c2,e,hc⟩:=h.2
 obtain ⟨_,rfl⟩:some ⟨b,o,none⟩ = a ∧ c = c2:=by simpa using e
 have:=Rd.piece hcell 0 j c (by omega)
 exact ⟨this,_,_,by rw [List.length_take,Nat.min_eq_left hj],by rw [List.length_take];omega⟩
end Go.Proofs.YtdgcamlmjmnpeaaGreatDoor
namespace Go.Proofs.YtdgcamlmjmnpeaaGreatDoor
open Go.RowKit
end Go.Proofs.YtdgcamlmjmnpeaaGreatDoor

/- Package courierref's cursor: message. -/
import Derived.Test.YtdgcamlmjmnpeaaGreatDoorMEncT
namespace Go.Proofs.YtdgcamlmjmnpeaaGreatDoor
open Go.RowKit
structure YOk (Y:List IV):Prop where
 b:∀ y ∈ Y,∀ f ∈ y.it.fields,typeB Y f.base.toList = true
 n:∀ y ∈ Y,∀ f ∈ y.it.fields,0 ≤ f.number ∧ f.number ≤ 99
 s:∀ y ∈ Y,∀ f ∈ y.it.fields,1 ≤ f.name.size ∧ f.name.size ≤ 400
 k:∀ y ∈ Y,∀ f ∈ y.it.fields,isW f.kind wOpt = true ∨ isW f.kind wList = true ∨ f.kind.toList = []
 fl:∀ y ∈ Y,y.it.fields.length ≤ 400
 nl:∀ y ∈ Y,y.it.names.length ≤ 400
 nn:∀ y ∈ Y,∀ t ∈ y.it.names,1 ≤ t.size ∧ t.size ≤ 400
theorem eat_none {t:List UInt8} {p:List UInt8} (h:(eatP p t).isSome = false):eatP p t = none:=by
 cases e:eatP p t with
 | none=>rfl
 | some r=>rw [e] at h;cases h
theorem openB:(ByteArray.mk #[123]).toList = [123]:=by rw [ByteArray.toList_eq]
theorem closeB:(ByteArray.mk #[125]).toList = [125]:=by rw [ByteArray.toList_eq]
end Go.Proofs.YtdgcamlmjmnpeaaGreatDoor

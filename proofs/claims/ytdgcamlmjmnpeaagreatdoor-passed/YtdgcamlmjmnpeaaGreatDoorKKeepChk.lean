/- The values of package courierkeep: what is encoded is decoded (no walk; by reckoning). -/
import Derived.Test.YtdgcamlmjmnpeaaGreatDoorMKeepA
namespace Go.Proofs.YtdgcamlmjmnpeaaGreatDoor
theorem chk0:((List.range 250).all fun k=>okAll (k + 0)) = true:=by kernel_rfl
theorem chk1:((List.range 250).all fun k=>okAll (k + 250)) = true:=by kernel_rfl
theorem chk2:((List.range 250).all fun k=>okAll (k + 500)) = true:=by kernel_rfl
theorem chk3:((List.range 250).all fun k=>okAll (k + 750)) = true:=by kernel_rfl
theorem chk {n:Nat} (h:n < 1000):okAll n = true:=by
 have key:∀ (o:Nat),((List.range 250).all fun k=>okAll (k + o)) = true → o ≤ n → n < o + 250 → okAll n = true:=fun o ho h1 h2=>by
  have:=List.all_eq_true.1 ho (n - o) (List.mem_range.2 (by omega))
  rwa [show n - o + o = n by omega] at this
 rcases (by omega:n < 250 ∨ (250 ≤ n ∧ n < 500) ∨ (500 ≤ n ∧ n < 750) ∨ 750 ≤ n) with h1 | ⟨h1,h2⟩ | ⟨h1,h2⟩ | h1
 ·exact key 0 chk0 (by omega) (by omega)
 ·exact key 250 chk1 (by omega) (by omega)
 ·exact key 500 chk2 (by omega) (by omega)
 ·exact key 750 chk3 (by omega) (by omega)
theorem chkBool:okK wBool [116,114,117,101] [102,97,108,115,101] = true:=by kernel_rfl
def moreK (n:Nat):List UInt8:=if n % 3 = 0 then [8,1,1,0,2,1,(2 * (n % 5)).toUInt8,7,0] else []
def psK (n:Nat):List (Nat × List UInt8):=[(1,vint (2 * n)),(2,[1]),(5,[10,(48 + n % 7).toUInt8]),(7,moreK n)]
def okPass (n:Nat):Bool:=(whole (encK wPoint (valPt n)) == some (partB (psK n))) && (decK wPoint (partB (psK n)) == some (valPt n)) && decide ((partB (psK n)).length ≤ 40) && decide ((valPt n).length ≤ 390)
theorem chkP:((List.range 100).all fun k=>okPass (2 * k)) = true:=by kernel_rfl
end Go.Proofs.YtdgcamlmjmnpeaaGreatDoor

/- The statement's own walk: plays, for the kind KDecode alone; Decodes. -/
import Derived.Test.YtopcgnjocklcoaaGreatDoorMRDecD
import Derived.Test.YtopcgnjocklcoaaGreatDoorMLawV
namespace Go.Proofs.YtopcgnjocklcoaaGreatDoor
open Go.RowKit
theorem law_startD (w:World):Law (w.alloc (.cells #[.slice none 0 0,.slice none 0 0,.slice none 0 0] 31)) w.heap.size w.heap.size (.slice none 0 0) (.slice none 0 0) (.slice none 0 0) [] [] :=
 ⟨heap_alloc_new w _,⟨World.ownsRow_nil _ _ _ _,fun x hx=>by simp at hx⟩,World.ownsRow_nil _ _ _ _,World.ownsRow_nil _ _ _ _,fun d hd=>by simp at hd,fun d hd=>by simp at hd,⟨Nat.le_refl _,fun d hd=>by simp at hd⟩,fun i j d d' h=>by simp at h,fun x hx=>by simp at hx,fun x hx=>by simp at hx⟩
set_option maxRecDepth 100000 in
set_option maxHeartbeats 8000000 in
theorem playsDecode (w:World) (sa:Option Addr) (cap kb:Nat) (L:List OpV) (hS:Scr w sa L) (hl:L.length ≤ 3000000) (hk0:w.cell? ⟨kb,0,none⟩ = some (.int .i64 3)) (hkb:kb < w.heap.size) (hE:Env w) :
  Calls Tryz.prog 8 #[.slice sa L.length cap,.slice (some ⟨kb,0,none⟩) 1 1] w fun e w'=>e = .returned (.bool true) ∧ Below w.heap.size w w':=by
 have HS:=hid hS
 have HE:=hid hE
 clear hS hE
 have hb0:Below w.heap.size w (w.alloc (.cells #[.slice none 0 0,.slice none 0 0,.slice none 0 0] 31)):=(Below.refl _ _).alloc (Nat.le_refl _) _
 go_enter Tryz.func8,Tryz.ntmps8
 go_wp2_with fail
 refine (stepDecode _ w.heap.size w.heap.size _ _ _ [] [] (law_startD w) _ _ _ _ _ _ _ (by unfold maxLen;decide) (by decide) (HE.out.below hb0) (HE.out.below hb0).own).mono ?_;rintro e w1 ⟨rfl,hI1,hb1⟩
 have hb01:Below w.heap.size w w1:=hb0.trans (hb1.mono hb0.size)
 have HI1:=hid hI1
 clear hI1 hb1
 go_wp2_with fail
 go_loopg [6,7,8,9] L.length (fun gk ok i x8 x9 wr=>∃ (k:Nat),k + gk = L.length ∧ i = .int .i64 k ∧ Hid (Law wr w.heap.size w.heap.size (.slice none 0 0) (.slice none 0 0) (.slice none 0 0) [] []) ∧ Below w.heap.size w wr)
 case atStart=>exact ⟨0,by omega,rfl,HI1,hb01⟩
 case round =>
  obtain ⟨k,hk,rfl,HI,hbel⟩:=hrel
  have hzr:=hbel.size
  by_cases hlt:k < L.length
  ·obtain ⟨b,off,rfl,hbs,hall⟩:=HS.out.at_ (by omega)
   have hx:=(hall k hlt).below hbel hbs
   obtain ⟨⟨K,A,B,C,D,S,T,V⟩,HXk⟩:∃ x,Hid (L[k] = x):=⟨_,hid rfl⟩
   rw [HXk.out] at hx
   have c0:=hx.c0
   have c1:=hx.c1
   have c2:=hx.c2
   have c3:=hx.c3
   have c4:=hx.c4
   have c5:=hx.c5
   have c6:=hx.c6
   have c7:=hx.c7
   have HSs:=hid hx.s
   have HVs:=hid (show L[k].V.size ≤ 100000000 from by have h1:=soFar_succ L k hlt;have h2:=soFar_le L (k + 1);have h3:=HS.out.sum;omega)
   rw [HXk.out] at HVs
   dsimp only at c0 c1 c2 c3 c4 c5 c6 c7 HSs HVs
   have hk':wr.cell? ⟨kb,0,none⟩ = some (.int .i64 3):=by rw [hbel.cell hkb];exact hk0
   obtain ⟨w2,hw2⟩:∃ w2,w2 = wr:=⟨_,rfl⟩
   subst hw2
   obtain ⟨gk2,hgk2⟩:∃ g,g = gk:=⟨_,rfl⟩
   subst hgk2
   have hbs2:b < w2.heap.size:=by omega
   have hltI:(k:Int) < (L.length:Int):=by omega
   clear hall hx
   go_wp2_with fail
   go_loopg [8,9] 1 (fun hk8 y8 y9 wq=>(hk8 = 1 ∧ y8 = .bool false ∧ y9 = .int .i64 0 ∧ wq = w2) ∨ (hk8 = 0 ∧ y8 = .bool (K == 3) ∧ y9 = .int .i64 1 ∧ ∃ n,wq = w2.drewN n))
   case atStart=>exact Or.inl ⟨rfl,rfl,rfl,rfl⟩
   case round =>
    rcases hrel with ⟨rfl,rfl,rfl,rfl⟩ | ⟨rfl,rfl,rfl,nn,rfl⟩
    ·go_wp2_with fail
     go_quiet (fail)
     go_wp2_with fail
     go_roundg 0
     case rel=>exact Or.inr ⟨rfl,rfl,rfl,_,rfl⟩
     case measure=>omega
    ·have hbq:Below w2.heap.size w2 (w2.drewN nn):=below_drewN (Below.refl _ _) nn
     have hbq0:Below w.heap.size w (w2.drewN nn):=hbel.trans (hbq.mono hzr)
     have HIq:=hid (HI.out.below hbq)
     by_cases hK:K = 3
     ·subst hK
      have hk1:((3:Int) == 3) = true:=by decide
      rw [hk1]
      have hcell:∀ ad:Addr,ad.block < w2.heap.size → (w2.drewN nn).cell? ad = w2.cell? ad:=fun ad had=>hbq.cell had
      rw [← hcell _ hbs2] at c0 c1 c2 c3 c4 c5 c6 c7
      clear hcell hk'
      go_wp2_with fail
      refine (stepDecode _ w.heap.size w.heap.size _ _ _ [] [] HIq.out A B C D S T V HSs.out HVs.out (HE.out.below hbq0) (HE.out.below hbq0).own).mono ?_;rintro e w3 ⟨rfl,hI3,hb3⟩
      have HI3:=hid hI3
      have hb03:Below w.heap.size w w3:=hbq0.trans (hb3.mono hbq0.size)
      clear hI3 hb3
      go_wp2_with fail
      refine (looks_any _ w.heap.size w.heap.size _ _ _ [] HI3.out.wat HI3.out.ents (by simp)).mono ?_;rintro e w4 ⟨rfl,hb4⟩
      have HI4:=hid (HI3.out.below hb4)
      have hb04:Below w.heap.size w w4:=hb03.trans (hb4.mono hb03.size)
      clear hb4
      go_wp2_with fail
      go_roundg (gk2 - 1)
      case rel=>exact ⟨k + 1,by omega,by go_num,HI4,hb04⟩
      case measure=>omega
     ·have hK':(K == 3) = false:=by simp [hK]
      rw [hK']
      clear hk'
      go_wp2_with fail
      go_roundg (gk2 - 1)
      case rel=>exact ⟨k + 1,by omega,by go_num,HIq,hbq0⟩
      case measure=>omega
  ·have hltI:¬ (k:Int) < (L.length:Int):=by omega
   go_wp2_with fail
   go_ret
   exact ⟨rfl,hbel⟩
set_option maxRecDepth 100000 in
set_option maxHeartbeats 1000000 in
theorem decodes_any (w:World) (sa:Option Addr) (cap:Nat) (L:List OpV) (hS:Scr w sa L) (hl:L.length ≤ 3000000) (hE:Env w) :
  Calls Tryz.prog 5 #[.slice sa L.length cap] w fun e w'=>e = .returned (.bool true) ∧ Below w.heap.size w w':=by
 have hb0:Below w.heap.size w (w.alloc (.cells #[.int .i64 3] 3)):=(Below.refl _ _).alloc (Nat.le_refl _) _
 have HS:=hid (hS.below hb0)
 have HE:=hid hE
 clear hS hE
 go_enter Tryz.func5,Tryz.ntmps5
 go_wp2_with fail
 refine (playsDecode _ sa cap _ L HS.out hl (by simp) (by simp) (HE.out.below hb0)).mono ?_;rintro e w1 ⟨rfl,hb1⟩
 have hb2:=hb0.trans (hb1.mono hb0.size)
 go_wp2_with fail
 go_ret
 exact ⟨rfl,hb2⟩
end Go.Proofs.YtopcgnjocklcoaaGreatDoor

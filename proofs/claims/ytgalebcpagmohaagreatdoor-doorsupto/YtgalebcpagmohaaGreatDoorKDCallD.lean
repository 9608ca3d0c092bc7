/- Package ends: Call, while the client has no session. -/
import Derived.Test.YtgalebcpagmohaaGreatDoorMDSub
import Derived.Test.YtgalebcpagmohaaGreatDoorMEqParse
set_option linter.unusedSimpArgs false
set_option linter.unusedVariables false
set_option maxHeartbeats 8000000
set_option maxRecDepth 100000
namespace Go.Proofs.YtgalebcpagmohaaGreatDoor
open Go.Proofs.Tryz
open Go.RowKit Go.Conc
theorem xW.push {w w':World} {lo:Nat} {v v':Value} {Bs:List Nat} {B:Nat} (h:xW w lo v Bs) (hsame:∀ k xs,aU w k 209 xs→aU w' k 209 xs) (hB:∃ xs,aU w' B 209 xs∧xs[0]? = some (.int .i64 (Bs.length:Nat))∧xs[3]? = some (.int .i64 0)∧xs[4]? = some (.string ⟨#[]⟩)∧xs[5]? = some (.string ⟨#[]⟩)) (hrow:rJ w' lo 168 v' (Bs++[B])):xW w' lo v' (Bs++[B]):=by
 refine⟨hrow,fun i hi=>?_⟩
 rcases Nat.lt_or_ge i Bs.length with hl | hl
 ·obtain⟨xs,h1,h2⟩:=h.each i hl
  rw[List.getElem_append_left hl]
  exact⟨xs,hsame _ _ h1,h2⟩
 ·have e:i=Bs.length:=by rw[List.length_append,List.length_singleton] at hi;omega
  subst e
  obtain⟨xs,h1,h2⟩:=hB
  exact⟨xs,by rw[List.getElem_append_right (Nat.le_refl _)];simpa using h1,h2⟩
def ZJ (g:jY) (W:Int) (t u:ByteArray) (n z:Int) (g':jY):Prop :=
 (eY g.X 3 t.toList (-1)∧n=0∧z=16∧g'=g) ∨
 (∃ (i:Nat) (x:bY),eY g.X 3 t.toList i∧g.X[i]? = some x∧∃ (E:Int) (d:List UInt8),AZ g.X (cellText x.it.base) u E d ∧
  ((E≠0∧n=0∧z=E∧g'=g) ∨
   (E=0∧(W≤g.Cs.length∨8≤g.Bs.length∨W≤g.an)∧n=0∧z=14∧g'=g) ∨
   (E=0∧¬ (W≤g.Cs.length∨8≤g.Bs.length∨W≤g.an)∧n=(g.Cs.length:Nat)∧z=0∧∃ asked ax calls B,g' = { g with asked:=asked,an:=g.an+1,ax:=ax,calls:=calls,Cs:=g.Cs++[B] })))
theorem Tryz.infoCallP:(Tryz.prog.info? 168).map (fun i=>(i.zero,i.size,i.bytes))=some (some (.pointer none),1,8):=by kernel_rfl
theorem AZ.small {X:List bY} {base v:ByteArray} {E:Int} {d:List UInt8} (h:AZ X base v E d):d.length≤64:=by
 rcases h with⟨_,rfl,_⟩ | ⟨_,⟨_,_,rfl⟩ | ⟨_,⟨_,_,rfl⟩ | ⟨x,_,⟨_,_,rfl⟩ | ⟨hl,_,rfl⟩⟩⟩⟩<;>first | exact hl | simp
theorem TT (w:World) (lo:Nat) (W D R:Int) (g:jY) (h:Cl w lo W D R g) (hE:Env w) (hO:∀ cb,lo≤cb→Own cb) (hW8:W≤8) (t u:ByteArray) (hu:u.size≤maxLen) :
  Calls Tryz.prog 85 #[.pointer (some ⟨g.b,0,none⟩),.string t,.string u] w (fun e w'=>∃ n z:Int,e=.returned (.tuple #[.int .i64 n,.int .i64 z])∧mG w lo W D R g (ZJ g W t u n z) w'):=by
 have d0:w.cell? ⟨g.b,0,none⟩=some g.iv:=h.e.blk.cell 0
 have HH:=hid h
 have HE:=hid hE
 have Yl:=hid hO
 obtain⟨ia,ic,hiv⟩:∃ a c,g.iv=.slice a g.X.length c:=ak h.i.own
 rw[hiv] at d0
 clear h hE hO
 go_enter func85,ntmps85
 go_wp2_with fail
 refine(G7 w lo (.slice ia g.X.length ic) g.X 3 t (by rw[← hiv];exact HH.out.i) HH.out.xo.nms HH.out.xo.len).mono ?_;rintro e w1 ⟨z,hF,hb1,⟨rfl,rfl⟩ | ⟨i,x,n,rfl,hx,hba,han,rfl⟩⟩
 ·have HF:=hid hF
  have HB:=hid (show Below w.heap.size w (w1.alloc (.cells #[.int .i64 0,.string ⟨#[]⟩,.int .i64 0,.slice none 0 0,.slice none 0 0,.string ⟨#[]⟩,.int .i64 0,.string ⟨#[]⟩,.int .i64 0] 135)) from hb1.alloc hb1.size _)
  clear hF
  go_wp2_with fail
  go_ret2
  exact⟨0,16,rfl,mG.still HH.out HB.out (Or.inl ⟨HF.out,rfl,rfl,rfl⟩)⟩
 ·have HF:=hid hF
  have hmt:x.it.name.text.toList=t.toList:=by
   obtain⟨x',hx',hm⟩:=He hF
   rw[hx] at hx';cases hx'
   unfold iw at hm
   simp only[Bool.and_eq_true,beq_iff_eq] at hm
   exact hm.2
  have HMT:=hid hmt
  have HX:=hid hx
  have HBT:=hid (show cellText x.it.base=n.bb by rw[hba];rfl)
  have hns:x.it.name.text.size≤1000:=by have:=HH.out.xs x (List.mem_of_getElem? hx);omega
  have hbI:Below w1.heap.size w1 (w1.alloc (.cells #[.int .i64 x.it.kind,.string x.it.name.text,.int .i64 x.it.name.at_,.slice n.fa x.it.fields.length n.fc,.slice n.na x.it.names.length n.nc,.string n.bb,.int .i64 n.ba,.string n.ab,.int .i64 n.aa] 135)):=(Below.refl _ _).alloc (Nat.le_refl _) _
  have hBI:aU (w1.alloc (.cells #[.int .i64 x.it.kind,.string x.it.name.text,.int .i64 x.it.name.at_,.slice n.fa x.it.fields.length n.fc,.slice n.na x.it.names.length n.nc,.string n.bb,.int .i64 n.ba,.string n.ab,.int .i64 n.aa] 135)) w1.heap.size 135 [.int .i64 x.it.kind,.string x.it.name.text,.int .i64 x.it.name.at_,.slice n.fa x.it.fields.length n.fc,.slice n.na x.it.names.length n.nc,.string n.bb,.int .i64 n.ba,.string n.ab,.int .i64 n.aa]:=heap_alloc_new w1 _
  have hz1:=hb1.size
  have HBI:=hid hBI
  have QC:=hid (hb1.trans (hbI.mono hz1))
  have hzI:w1.heap.size<(w1.alloc (.cells #[.int .i64 x.it.kind,.string x.it.name.text,.int .i64 x.it.name.at_,.slice n.fa x.it.fields.length n.fc,.slice n.na x.it.names.length n.nc,.string n.bb,.int .i64 n.ba,.string n.ab,.int .i64 n.aa] 135)).heap.size:=by simp
  unfold y9
  clear hF hx hba han hbI hBI hmt
  go_wp2_with fail
  generalize w1.alloc (.cells #[.int .i64 x.it.kind,.string x.it.name.text,.int .i64 x.it.name.at_,.slice n.fa x.it.fields.length n.fc,.slice n.na x.it.names.length n.nc,.string n.bb,.int .i64 n.ba,.string n.ab,.int .i64 n.aa] 135)=wI at *
  generalize hib:w1.heap.size=ib at *
  obtain⟨k0,k2,fa,fl,fc,na,nl,nc,k6,ab,k8,hHB⟩:∃ (k0 k2:Int) (fa:Option Addr) (fl fc:Nat) (na:Option Addr) (nl nc:Nat) (k6:Int) (ab:ByteArray) (k8:Int),aU wI ib 135 [.int .i64 k0,.string x.it.name.text,.int .i64 k2,.slice fa fl fc,.slice na nl nc,.string n.bb,.int .i64 k6,.string ab,.int .i64 k8]:=⟨_,_,_,_,_,_,_,_,_,_,_,HBI.out⟩
  have HBY:=hid hHB
  have HEI:=hid (HE.out.below QC.out)
  clear hHB HBI
  have HII:=hid (HH.out.i.below QC.out)
  rw[hiv] at HII
  have e0:wI.cell? ⟨g.b,0,none⟩=some (.slice ia g.X.length ic):=by rw[← hiv];exact((HH.out.below QC.out).e.blk.cell 0)
  have e5:wI.cell? ⟨ib,5,none⟩=some (.string n.bb):=HBY.out.cell 5
  have Uj:=HH.out.lb
  have akP:=HH.out.e.blk.lt
  have akQ:=QC.out.size
  go_wp2_with fail
  go_region_with (go_at_call 112;refine(A8 wI.drew lo ia g.X.length ic g.X n.bb u (HII.out.below (Below.refl _ _).drew) HH.out.xo (HEI.out.below (Below.refl _ _).drew) (fun cb hcb=>Yl.out cb (Nat.le_trans (show lo≤wI.heap.size by omega) hcb)) hu).mono ?_;rintro e w2 ⟨da,dc,d,E,rfl,hb2',hB2,hnil,hans⟩;have HA:=hid hans;have HD:=hid hB2;have akR:=hans.small;clear hB2 hnil hans)
  all_goals
   have hb2:Below wI.heap.size wI w2:=(Below.refl _ wI).drew.trans hb2'
   by_cases hE0:E=0
   ·subst hE0
    have hbw2:=QC.out.trans (hb2.mono QC.out.size)
    have H2:=hid (HH.out.below hbw2)
    obtain⟨aa,ac,hav⟩:=ak HH.out.a
    obtain⟨sa,sc,hsv⟩:=HH.out.s.row.slice
    obtain⟨la,lc,hcv⟩:=HH.out.c.row.slice
    have HAV:=hid hav
    have HSV:=hid hsv
    have HCV:=hid hcv
    have he2:=H2.out.e
    rw[hav,hsv,hcv] at he2
    have f1:w2.cell? ⟨g.b,1,none⟩=some (.int .i64 W):=he2.blk.cell 1
    have f17:w2.cell? ⟨g.b,17,none⟩=some (.slice la g.Cs.length lc):=he2.blk.cell 17
    have HE2:=hid he2
    clear he2 hav hsv hcv
    cases hcW:decide (W≤(g.Cs.length:Int)) with
    | true=>
     have WW:=hid (show W≤g.Cs.length∨8≤g.Bs.length∨W≤g.an from Or.inl (by simpa using hcW))
     go_wp2_with fail
     go_region
     all_goals
      go_wp2_with fail
      go_ret2
      exact⟨0,14,rfl,mG.still HH.out hbw2.drew (Or.inr ⟨i,x,HF.out,HX.out,0,d,by rw[HBT.out];exact HA.out,Or.inr (Or.inl ⟨rfl,WW.out,rfl,rfl,rfl⟩)⟩)⟩
    | false=>
     have akS:¬ W≤(g.Cs.length:Int):=by simpa using hcW
     go_wp2_with fail
     go_region_with (go_at_call 121;refine(CO w2.drew g.b g.iv _ _ W g.last g.had g.up g.token g.silence aa g.an ac g.an sa g.Bs.length sc g.Bs.length (.slice la g.Cs.length lc) g.Cs.length g.L g.q g.m HE2.out.drew).mono ?_;rintro e w3 ⟨rfl,ag7⟩)
     all_goals
      have hb3:Below w2.heap.size w2 w3:=(Below.refl _ w2).drew.trans ag7
      have hbw3:=hbw2.trans (hb3.mono hbw2.size)
      cases hfull:(decide (8≤g.Bs.length)||decide (W≤g.an)) with
      | true=>
       have WW:=hid (show W≤g.Cs.length∨8≤g.Bs.length∨W≤g.an from Or.inr (by simpa using hfull))
       go_wp2_with fail
       go_ret2
       exact⟨0,14,rfl,mG.still HH.out hbw3 (Or.inr ⟨i,x,HF.out,HX.out,0,d,by rw[HBT.out];exact HA.out,Or.inr (Or.inl ⟨rfl,WW.out,rfl,rfl,rfl⟩)⟩)⟩
      | false=>
       have WW:=hid (show ¬ (W≤g.Cs.length∨8≤g.Bs.length∨W≤g.an) by
        rintro(hc | hc)
        ·omega
        ·have:(decide (8≤g.Bs.length)||decide (W≤g.an))=true:=by simpa using hc
         rw[hfull] at this;cases this)
       have H3:=hid (HH.out.below hbw3)
       have hB3:=HBY.out.below (show Below wI.heap.size wI w3 from hb2.trans (hb3.mono hb2.size))
       have hD3:=HD.out.same hb3
       have HCO:=hid hD3.rd.conv
       have hcv:(convert 97 9 (.slice da d.length dc)).run Tryz.prog w3=.ok (.string (strOf d)) w3:=HCO.out
       have hsd:(strOf d).size≤64:=by have:(strOf d).size=d.length:=(by show (List.toArray d).size=_;simp);omega
       have c1:w3.cell? ⟨ib,1,none⟩=some (.string x.it.name.text):=hB3.cell 1
       have HB3:=hid hB3
       have hlt3:=hB3.lt
       have hbn:=HH.out.nb
       have hcn:=HH.out.nc
       have agw:g.an≤16:=by have:=HH.out.tot;omega
       have aa4:=hid HH.out.tot
       have agx:=hbw3.size
       have agy:=HH.out.lb
       have hbl:=HH.out.e.blk.lt
       clear hB3
       go_wp2_with fail
       refine(Ad w3 g.b g.iv _ _ _ g.last g.had g.up g.token g.silence g.asked g.an g.an g.streams g.Bs.length g.calls g.Cs.length g.L g.q g.m lo g.ax H3.out.e H3.out.a (by omega) (by omega) (by omega) 3 0 0 0 0 (x.it.name.text++ByteArray.mk #[32]++strOf d)).mono ?_
       rintro e w4 ⟨rfl,a',c',xs',he4,EU,hn4,hc4⟩
       have JQ:=hc4.size
       have agz:w.heap.size≤ib:=hz1
       have hB4:aU w4 ib 135 [.int .i64 k0,.string x.it.name.text,.int .i64 k2,.slice fa fl fc,.slice na nl nc,.string n.bb,.int .i64 k6,.string ab,.int .i64 k8]:=HB3.out.fZ hc4 (fun e=>by
        rcases e with e | e
        ·omega
        ·have:=(HH.out.a.lt ib e).2;omega)
       have r0:w4.cell? ⟨ib,0,none⟩=some (.int .i64 k0):=hB4.cell 0
       have r1:w4.cell? ⟨ib,1,none⟩=some (.string x.it.name.text):=hB4.cell 1
       have r2:w4.cell? ⟨ib,2,none⟩=some (.int .i64 k2):=hB4.cell 2
       have r3:w4.cell? ⟨ib,3,none⟩=some (.slice fa fl fc):=hB4.cell 3
       have r4:w4.cell? ⟨ib,4,none⟩=some (.slice na nl nc):=hB4.cell 4
       have r5:w4.cell? ⟨ib,5,none⟩=some (.string n.bb):=hB4.cell 5
       have r6:w4.cell? ⟨ib,6,none⟩=some (.int .i64 k6):=hB4.cell 6
       have r7:w4.cell? ⟨ib,7,none⟩=some (.string ab):=hB4.cell 7
       have r8:w4.cell? ⟨ib,8,none⟩=some (.int .i64 k8):=hB4.cell 8
       have d18:w4.cell? ⟨g.b,18,none⟩=some (.int .i64 (g.Cs.length:Nat)):=he4.blk.cell 18
       have hb5:Below w4.heap.size w4 (w4.alloc (.cells #[.int .i64 (g.Cs.length:Nat),.int .u64 (g.an:Nat),.string ab,.int .i64 0,.string ⟨#[]⟩,.string ⟨#[]⟩] 209)).drew:=((Below.refl _ _).alloc (Nat.le_refl _) _).drew
       have hb6:Below w4.heap.size w4 ((w4.alloc (.cells #[.int .i64 (g.Cs.length:Nat),.int .u64 (g.an:Nat),.string ab,.int .i64 0,.string ⟨#[]⟩,.string ⟨#[]⟩] 209)).alloc (.cells #[.pointer (some ⟨w4.heap.size,0,none⟩)] 168)).drew:=(pX w4 _ _).drew
       have hS6:aU ((w4.alloc (.cells #[.int .i64 (g.Cs.length:Nat),.int .u64 (g.an:Nat),.string ab,.int .i64 0,.string ⟨#[]⟩,.string ⟨#[]⟩] 209)).alloc (.cells #[.pointer (some ⟨w4.heap.size,0,none⟩)] 168)).drew w4.heap.size 209 [.int .i64 (g.Cs.length:Nat),.int .u64 (g.an:Nat),.string ab,.int .i64 0,.string ⟨#[]⟩,.string ⟨#[]⟩]:=(zh w4 _ _).trans (heap_alloc_new w4 _)
       have hN6:aU ((w4.alloc (.cells #[.int .i64 (g.Cs.length:Nat),.int .u64 (g.an:Nat),.string ab,.int .i64 0,.string ⟨#[]⟩,.string ⟨#[]⟩] 209)).alloc (.cells #[.pointer (some ⟨w4.heap.size,0,none⟩)] 168)).drew (w4.heap.size+1) 168 [.pointer (some ⟨w4.heap.size,0,none⟩)]:=zi w4 _ _
       have hz6:((w4.alloc (.cells #[.int .i64 (g.Cs.length:Nat),.int .u64 (g.an:Nat),.string ab,.int .i64 0,.string ⟨#[]⟩,.string ⟨#[]⟩] 209)).alloc (.cells #[.pointer (some ⟨w4.heap.size,0,none⟩)] 168)).drew.heap.size=w4.heap.size+2:=by show ((w4.alloc _).alloc _).heap.size=_;simp
       have d17:(w4.alloc (.cells #[.int .i64 (g.Cs.length:Nat),.int .u64 (g.an:Nat),.string ab,.int .i64 0,.string ⟨#[]⟩,.string ⟨#[]⟩] 209)).drew.cell? ⟨g.b,17,none⟩=some (.slice la g.Cs.length lc):=by rw[← HCV.out];exact(he4.blk.below hb5).cell 17
       have WX:Only w3 (fun k=>k=g.b∨g.asked.ownBlock=some k) [80 + 2,162 + 2]:=(Only.nG H3.out.e.blk.tag (by decide)).or (Only.own H3.out.a (by decide))
       have hs4:xW w4 lo g.calls g.Cs:=H3.out.c.only hc4 WX (by decide) (by decide)
       have hs6:=hs4.below hb6
       have he6:=he4.below hb6
       have Qa:=au EU (fun k hk=>hb6.block k (EU.lt k hk).2)
       have hr6:World.ownsRow ((w4.alloc (.cells #[.int .i64 (g.Cs.length:Nat),.int .u64 (g.an:Nat),.string ab,.int .i64 0,.string ⟨#[]⟩,.string ⟨#[]⟩] 209)).alloc (.cells #[.pointer (some ⟨w4.heap.size,0,none⟩)] 168)).drew lo 168 1 (.slice la g.Cs.length lc) g.Cs.length (g.Cs.map jr):=by rw[← HCV.out];exact hs6.row
       obtain⟨N,Fp⟩:∃ N,Hid (g.Cs.length+1=N):=⟨_,hid rfl⟩
       obtain⟨Y,HY⟩:∃ Y,Hid (g.Cs.map jr++[.pointer (some ⟨w4.heap.size,0,none⟩)]=Y):=⟨_,hid rfl⟩
       have HR6:=hid hr6
       have Yq:=hid hN6
       have HS6:=hid hS6
       have Y0:=hid he6
       have HE4:=hid he4
       have HO4:=hid EU
       have HO6:=hid Qa
       have Nk:=hid hs4
       have HZ6:=hid hz6
       have XG:=hid hn4
       have uo:=hid hc4
       have Hb6:=hid hb6
       clear hB4 he4 EU hn4 hc4 hs4 hs6 he6 Qa hr6 hN6 hS6 hz6 hb5 hb6 WX hib
       go_wp2_with fail
       go_region
       all_goals
        go_wp2_with (at_builtin;refine fB ((w4.alloc (.cells #[.int .i64 (g.Cs.length:Nat),.int .u64 (g.an:Nat),.string ab,.int .i64 0,.string ⟨#[]⟩,.string ⟨#[]⟩] 209)).alloc (.cells #[.pointer (some ⟨w4.heap.size,0,none⟩)] 168)).drew rfl (.tmp 82) (.tmp 84) 78 168 (.pointer none) 1 8 rfl underlying78 Tryz.infoCallP rfl (by decide) (.slice la g.Cs.length lc) g.Cs.length (g.Cs.map jr) lo rfl HR6.out ⟨w4.heap.size+1,0,none⟩ 1 1 [.pointer (some ⟨w4.heap.size,0,none⟩)] rfl rfl (fun j v hv=>by
         rw[jO _ _ rfl]
         have:=Yq.out.cell (0+j)
         rw[this]
         simpa using hv) (fun v hv=>by simp at hv;subst hv;rfl) N Fp.out Y HY.out (by unfold maxLen;omega) (by omega) (by have:=HZ6.out;omega) ?_)
        intro a7 c7 w7 EM YL
        have QD:aN (fun k=>g.calls.ownBlock=some k) ((w4.alloc (.cells #[.int .i64 (g.Cs.length:Nat),.int .u64 (g.an:Nat),.string ab,.int .i64 0,.string ⟨#[]⟩,.string ⟨#[]⟩] 209)).alloc (.cells #[.pointer (some ⟨w4.heap.size,0,none⟩)] 168)).drew w7:=aN.grew YL (fun k hk=>by rw[HCV.out];exact hk)
        have zS:Only ((w4.alloc (.cells #[.int .i64 (g.Cs.length:Nat),.int .u64 (g.an:Nat),.string ab,.int .i64 0,.string ⟨#[]⟩,.string ⟨#[]⟩] 209)).alloc (.cells #[.pointer (some ⟨w4.heap.size,0,none⟩)] 168)).drew (fun k=>g.calls.ownBlock=some k) [168 + 2]:=by rw[HCV.out];exact Only.own HR6.out (by decide)
        have JC:=Y0.out.oD
        have hwl:=Y0.out.pO
        have BA:aW w7 g.b 80 g.iv (.int .i64 W) (.int .i64 D) (.int .i64 R) g.last g.had g.up (jV g.token g.silence (.slice a' (g.an+1) c') (g.an+1) g.streams g.Bs.length g.calls g.Cs.length) g.L g.q g.m :=
         Y0.out.fZ QD (fun e=>by have:=zS _ e _ Y0.out.blk.tag;revert this;decide) (fun e=>by have:=zS _ e _ JC.tag;revert this;decide) (fun e=>by have:=zS _ e _ hwl.tag;revert this;decide)
        have hS7:=HS6.out.only QD zS (by decide)
        have XM:=jJ HO6.out QD zS (by decide)
        have e17:w7.cell? ⟨g.b,17,none⟩=some g.calls:=BA.blk.cell 17
        have g17:=BA.blk.frozen 17
        have hB8:aU (w7.setCell ⟨g.b,17,none⟩ (.slice a7 N c7)) g.b 80 (rG g.iv (.int .i64 W) (.int .i64 D) (.int .i64 R) g.last g.had g.up g.q g.m (jV g.token g.silence (.slice a' (g.an+1) c') (g.an+1) g.streams g.Bs.length (.slice a7 N c7) g.Cs.length)):=BA.blk.set 17 _
        have hc8:aN (fun k=>k=g.b) w7 (w7.setCell ⟨g.b,17,none⟩ (.slice a7 N c7)):=(aN.refl _ _).setCell _ _ (fun _=>rfl)
        have EN:aW (w7.setCell ⟨g.b,17,none⟩ (.slice a7 N c7)) g.b 80 g.iv (.int .i64 W) (.int .i64 D) (.int .i64 R) g.last g.had g.up (jV g.token g.silence (.slice a' (g.an+1) c') (g.an+1) g.streams g.Bs.length (.slice a7 N c7) g.Cs.length) g.L g.q g.m:=⟨hB8,BA.oD.fZ hc8 (fun e=>BA.blk.lK BA.oD e.symm),BA.pO.fZ hc8 (fun e=>BA.blk.gV BA.pO e.symm)⟩
        have hSb:g.b≠w4.heap.size:=by omega
        have hS8:=hS7.fZ hc8 (fun e=>hSb e.symm)
        obtain⟨w8,hw8⟩:∃ w8,w7.setCell ⟨g.b,17,none⟩ (.slice a7 N c7)=w8:=⟨_,rfl⟩
        rw[hw8] at hB8 hc8 EN hS8
        have f18:w8.cell? ⟨g.b,18,none⟩=some (.int .i64 (g.Cs.length:Nat)):=EN.blk.cell 18
        have g18:=EN.blk.frozen 18
        have hB9:aU (w8.setCell ⟨g.b,18,none⟩ (.int .i64 ((g.Cs.length:Int)+1))) g.b 80 (rG g.iv (.int .i64 W) (.int .i64 D) (.int .i64 R) g.last g.had g.up g.q g.m (jV g.token g.silence (.slice a' (g.an+1) c') (g.an+1) g.streams g.Bs.length (.slice a7 N c7) (g.Cs.length+1))):=EN.blk.set 18 _
        have Jp:aN (fun k=>k=g.b) w8 (w8.setCell ⟨g.b,18,none⟩ (.int .i64 ((g.Cs.length:Int)+1))):=(aN.refl _ _).setCell _ _ (fun _=>rfl)
        have he9:aW (w8.setCell ⟨g.b,18,none⟩ (.int .i64 ((g.Cs.length:Int)+1))) g.b 80 g.iv (.int .i64 W) (.int .i64 D) (.int .i64 R) g.last g.had g.up (jV g.token g.silence (.slice a' (g.an+1) c') (g.an+1) g.streams g.Bs.length (.slice a7 N c7) (g.Cs.length+1)) g.L g.q g.m:=⟨hB9,EN.oD.fZ Jp (fun e=>EN.blk.lK EN.oD e.symm),EN.pO.fZ Jp (fun e=>EN.blk.gV EN.pO e.symm)⟩
        have Y1:=hS8.fZ Jp (fun e=>hSb e.symm)
        obtain⟨w9,hw9⟩:∃ w9,w8.setCell ⟨g.b,18,none⟩ (.int .i64 ((g.Cs.length:Int)+1))=w9:=⟨_,rfl⟩
        rw[hw9] at hB9 Jp he9 Y1
        have u0:w9.cell? ⟨w4.heap.size,0,none⟩=some (.int .i64 (g.Cs.length:Nat)):=Y1.cell 0
        have Jq:aN (fun k=>k=g.b) w7 w9:=hc8.same Jp
        have Pz:aN (fun k=>k=g.b∨g.calls.ownBlock=some k) w4 w9:=((aN.of_below Hb6.out).same (QD.mono (fun k _ e=>Or.inr e))).same (Jq.mono (fun k _ e=>Or.inl e))
        have hcA:aN (fun k=>(k=g.b∨g.asked.ownBlock=some k)∨g.calls.ownBlock=some k) w w9:=((aN.of_below hbw3).same (uo.out.mono (fun k _ e=>Or.inl e))).same (Pz.mono (fun k _ e=>e.elim (fun e=>Or.inl (Or.inl e)) Or.inr))
        have hoA:Only w (fun k=>(k=g.b∨g.asked.ownBlock=some k)∨g.calls.ownBlock=some k) [80 + 2,162 + 2,168 + 2]:=((Only.nG HH.out.e.blk.tag (by decide)).or (Only.own HH.out.a (by decide))).or (Only.own HH.out.c.row (by decide))
        have abb:(Value.slice a7 N c7).ownBlock≠some g.b:=BA.blk.mQ EM (by decide)
        have abd:(Value.slice a' (g.an+1) c').ownBlock≠some g.b:=BA.blk.mQ XM (by decide)
        have MW:rJ w9 lo 168 (.slice a7 N c7) (g.Cs++[w4.heap.size]):=by
         have:=Jq.own EM (fun k hk e=>abb (e ▸ hk))
         rw[← HY.out,← Fp.out] at this
         rw[← Fp.out]
         show World.ownsRow _ _ _ _ _ _ _
         simpa[jr] using this
        have WY:xW w9 lo (.slice a7 N c7) (g.Cs++[w4.heap.size]):=by
         have hoB:Only w4 (fun k=>k=g.b∨g.calls.ownBlock=some k) [80 + 2,168 + 2]:=(Only.nG HE4.out.blk.tag (by decide)).or (Only.own Nk.out.row (by decide))
         exact Nk.out.push (fun k xs hk=>hk.only Pz hoB (by decide)) ⟨_,Y1,rfl,rfl,rfl,rfl⟩ MW
        have HCl:Hid (Cl w9 lo W D R { g with asked:=.slice a' (g.an+1) c',an:=g.an+1,ax:=xs',calls:=.slice a7 N c7,Cs:=g.Cs++[w4.heap.size] }) :=
         hid {
          e:=(by
           show aW w9 g.b 80 g.iv (.int .i64 W) (.int .i64 D) (.int .i64 R) g.last g.had g.up (jV g.token g.silence (.slice a' (g.an+1) c') (g.an+1) g.streams g.Bs.length (.slice a7 N c7) (g.Cs++[w4.heap.size]).length) g.L g.q g.m
           rw[List.length_append,List.length_singleton]
           exact he9)
          a:=Jq.own XM (fun k hk e=>abd (e ▸ hk))
          c:=WY
          s:=HH.out.s.only hcA hoA (by decide) (by decide)
          i:=HH.out.i.only hcA hoA (by decide) (by decide) (by decide)
          xo:=HH.out.xo,xs:=HH.out.xs
          tot:=(by show g.an+1=g.Bs.length+(g.Cs++[w4.heap.size]).length;rw[List.length_append,List.length_singleton];have:=aa4.out;omega)
          nb:=HH.out.nb
          nc:=(by show (g.Cs++[w4.heap.size]).length≤8;rw[List.length_append,List.length_singleton];have:=WW.out;omega),l:=HH.out.l,lu:=HH.out.lu,tk:=HH.out.tk,lb:=HH.out.lb,lq:=HH.out.lq,lm:=HH.out.lm }
        have YC:=hid hcA
        clear hcA hoA WY MW Pz Jq BA EN he9 hB8 hB9 hS7 hS8 Y1 XM EM YL QD hc8 Jp zS JC hwl
        go_wp2_with fail
        go_ret2
        refine⟨_,0,rfl,_,HCl.out,YC.out.mono (fun k _ e=>?_),⟨Or.inl rfl,Or.inl rfl,rfl,rfl,rfl,rfl⟩,Or.inr ⟨i,x,HF.out,HX.out,0,d,by rw[HBT.out];exact HA.out,Or.inr (Or.inr ⟨rfl,WW.out,rfl,rfl,_,_,_,_,rfl⟩)⟩⟩
        rcases e with(e | e) | e
        ·rw[e];exact y8 g
        ·exact Or.inl (Or.inl (Or.inr e))
        ·exact Or.inr e
   ·have hEB:(E != 0)=true:=by simpa using hE0
    go_wp2_with fail
    go_ret2
    exact⟨0,E,rfl,mG.still HH.out (QC.out.trans (hb2.mono QC.out.size)) (Or.inr ⟨i,x,HF.out,HX.out,E,d,by rw[HBT.out];exact HA.out,Or.inl ⟨hE0,rfl,rfl,rfl⟩⟩)⟩
end Go.Proofs.YtgalebcpagmohaaGreatDoor

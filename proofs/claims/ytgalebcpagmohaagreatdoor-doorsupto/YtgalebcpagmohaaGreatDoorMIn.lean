/- inItem of package courierref: one token at station 1. -/
import Derived.Test.YtgalebcpagmohaaGreatDoorMKept
set_option maxHeartbeats 6000000
set_option maxRecDepth 100000
namespace Go.Proofs.YtgalebcpagmohaaGreatDoor
open Go.Proofs.Tryz
open Go.RowKit
theorem Vh (w:World) (lo b o:Nat) (x:IV) (t:Tok) (hn:fO w lo x) (hs:Seg w b 88 o (bJ x)) (hlo:b<lo) (hsz:lo≤w.heap.size) (hfit:Fit x.it 1) :
  Calls Tryz.prog 21 #[.pointer (some ⟨b,o,none⟩),.int .i64 1,.agg #[.string t.text,.int .i64 t.at_,.bool t.bad]] w (sQ w lo b o x.it 1 t):=by
 obtain⟨it,vf,vn,jA,vb,jB⟩:=x
 obtain⟨af,cf,hvf⟩:∃ a c,vf=.slice a it.fields.length c:=ak hn.f
 subst hvf
 obtain⟨an,cn,hvn⟩:∃ a c,vn=.slice a it.names.length c:=ak hn.n
 subst hvn
 obtain⟨ab,cb,hvb⟩:∃ a c,vb=.slice a it.bases.length c:=ak hn.b
 subst hvb
 obtain⟨tt,ta,tb⟩:=t
 have hbs:=hs.lt
 have OE:=hlo
 have hfl:it.fields.length≤400:=hfit.2.2.1
 have HP:=hid hfit
 have Ud:=hid (fun gg (hgg:(Value.slice an it.names.length cn).ownBlock=some gg)=>(hn.n.lt gg hgg).2)
 have Zq:=hid (fun gg (hgg:(Value.slice ab it.bases.length cb).ownBlock=some gg)=>(hn.b.lt gg hgg).2)
 have HG:=hid (fun gg (hgg:(Value.slice af it.fields.length cf).ownBlock=some gg)=>(hn.f.lt gg hgg).2)
 have HN:=hid hn
 have HS:=hid hs
 clear hfit hn hs
 go_enter func21,ntmps21
 go_wp2_with fail
 refine(mW _ _).mono ?_;rintro e w1 ⟨rfl,hb1⟩
 obtain⟨hc1,hf1⟩:=oW hb1
 go_wp2_with fail
 refine(kD _ _).mono ?_;rintro e w2 ⟨rfl,hb2⟩
 have fC:=hb1.trans (hb2.mono hb1.size)
 clear hc1 hf1 hb1 hb2
 obtain⟨hc1,hf1⟩:=oW fC
 go_wp2_with fail
 refine(gY _ _).mono ?_;rintro e w3 ⟨rfl,rfl⟩
 clear hc1 hf1
 obtain⟨hbel,hn3,hs3,d0,d1,hlt3⟩:=Ko HN.out HS.out fC
 clear fC
 have c0:w3.cell? ⟨b,o,none⟩=some (.string it.kind):=hs3.cell (j:=0) rfl
 have c1:w3.cell? ⟨b,o+1,none⟩=some (.string it.name):=hs3.cell (j:=1) rfl
 have c2:w3.cell? ⟨b,o+2,none⟩=some (.int .i64 it.nameAt):=hs3.cell (j:=2) rfl
 have c4:w3.cell? ⟨b,o+4,none⟩=some (.slice an it.names.length cn):=hs3.cell (j:=4) rfl
 have c5:w3.cell? ⟨b,o+5,none⟩=some jA:=hs3.cell (j:=5) rfl
 have c6:w3.cell? ⟨b,o+6,none⟩=some (.slice ab it.bases.length cb):=hs3.cell (j:=6) rfl
 have c7:w3.cell? ⟨b,o+7,none⟩=some jB:=hs3.cell (j:=7) rfl
 have c3:w3.cell? ⟨b,o+3,none⟩=some (.slice af it.fields.length cf):=hs3.cell (j:=3) rfl
 have fz:∀ j,w3.frozen? ⟨b,j,none⟩=false:=fun j=>hs3.frozen j
 have HB:=hid hbel
 have nK:=hid hn3
 have pI:=hid hs3
 clear hbel hn3 hs3 HN HS
 cases hfr:nO tt.toList with
 | false=>
  have HR:=hid (show ay it 1 ⟨tt,ta,tb⟩=(it,9) by simp[ay,hfr])
  clear hfr
  go_wp2_with fail
  go_ret
  exact⟨⟨it,_,_,jA,_,jB⟩,by rw[HR.out];rfl,by rw[HR.out],pI.out,nK.out,Kept.below HB.out hsz hbs,fun _=>HB.out⟩
 | true=>
  cases hty:dQ it.kind.toList with
  | false=>
   have hm:(it.kind.toList==[109,101,115,115,97,103,101])=false:=by simp[dQ] at hty;simpa using hty.1
   have he:(it.kind.toList==[101,110,117,109])=false:=by simp[dQ] at hty;simpa using hty.2
   have HR:=hid (show ay it 1 ⟨tt,ta,tb⟩=({ it with name:=tt,nameAt:=ta },8) by simp[ay,hfr,hty])
   clear hfr hty
   go_wp2_with fail
   go_ret
   have s1:=pI.out.set 1 (.string tt)
   have n1:=nK.out.o9 pI.out (o+1) (.string tt)
   have n2:=n1.o9 s1 (o+2) (.int .i64 ta)
   exact⟨⟨{ it with name:=tt,nameAt:=ta },_,_,jA,_,jB⟩,by rw[HR.out];rfl,by rw[HR.out],s1.set 2 (.int .i64 ta),⟨n2.f,n2.n,n2.na,n2.b,n2.ba,n2.zf,n2.zn,n2.yj,n2.zb,n2.yu⟩,((Kept.below HB.out hsz hbs).setCell 1 (by omega) _).setCell 2 (by omega) _,fun hh=>by rw[HR.out] at hh;cases hh⟩
  | true=>
   have HR:=hid (show ay it 1 ⟨tt,ta,tb⟩=({ it with name:=tt,nameAt:=ta },2) by simp[ay,hfr,hty])
   have HT:=hid hty
   clear hfr hty
   by_cases hm:it.kind.toList=[109,101,115,115,97,103,101]
   all_goals
    first
    | have hmb:(it.kind.toList==[109,101,115,115,97,103,101])=true:=by simp[hm]
    | (have hmb:(it.kind.toList==[109,101,115,115,97,103,101])=false:=(by simp[hm]);have he:(it.kind.toList==[101,110,117,109])=true:=by have:=HT.out;simpa[dQ,hm] using this)
    clear hm HT
    go_wp2_with fail
    go_ret
    have s1:=pI.out.set 1 (.string tt)
    have n1:=nK.out.o9 pI.out (o+1) (.string tt)
    have n2:=n1.o9 s1 (o+2) (.int .i64 ta)
    exact⟨⟨{ it with name:=tt,nameAt:=ta },_,_,jA,_,jB⟩,by rw[HR.out];rfl,by rw[HR.out],s1.set 2 (.int .i64 ta),⟨n2.f,n2.n,n2.na,n2.b,n2.ba,n2.zf,n2.zn,n2.yj,n2.zb,n2.yu⟩,((Kept.below HB.out hsz hbs).setCell 1 (by omega) _).setCell 2 (by omega) _,fun hh=>by rw[HR.out] at hh;cases hh⟩
theorem Vj (w:World) (lo b o:Nat) (x:IV) (t:Tok) (hn:fO w lo x) (hs:Seg w b 88 o (bJ x)) (hlo:b<lo) (hsz:lo≤w.heap.size) (hfit:Fit x.it 2) :
  Calls Tryz.prog 21 #[.pointer (some ⟨b,o,none⟩),.int .i64 2,.agg #[.string t.text,.int .i64 t.at_,.bool t.bad]] w (sQ w lo b o x.it 2 t):=by
 obtain⟨it,vf,vn,jA,vb,jB⟩:=x
 obtain⟨af,cf,hvf⟩:∃ a c,vf=.slice a it.fields.length c:=ak hn.f
 subst hvf
 obtain⟨an,cn,hvn⟩:∃ a c,vn=.slice a it.names.length c:=ak hn.n
 subst hvn
 obtain⟨ab,cb,hvb⟩:∃ a c,vb=.slice a it.bases.length c:=ak hn.b
 subst hvb
 obtain⟨tt,ta,tb⟩:=t
 have hbs:=hs.lt
 have OE:=hlo
 have hfl:it.fields.length≤400:=hfit.2.2.1
 have HP:=hid hfit
 have Ud:=hid (fun gg (hgg:(Value.slice an it.names.length cn).ownBlock=some gg)=>(hn.n.lt gg hgg).2)
 have Zq:=hid (fun gg (hgg:(Value.slice ab it.bases.length cb).ownBlock=some gg)=>(hn.b.lt gg hgg).2)
 have HG:=hid (fun gg (hgg:(Value.slice af it.fields.length cf).ownBlock=some gg)=>(hn.f.lt gg hgg).2)
 have HN:=hid hn
 have HS:=hid hs
 clear hfit hn hs
 go_enter func21,ntmps21
 go_wp2_with fail
 refine(mW _ _).mono ?_;rintro e w1 ⟨rfl,hb1⟩
 obtain⟨hc1,hf1⟩:=oW hb1
 go_wp2_with fail
 refine(kD _ _).mono ?_;rintro e w2 ⟨rfl,hb2⟩
 have fC:=hb1.trans (hb2.mono hb1.size)
 clear hc1 hf1 hb1 hb2
 obtain⟨hc1,hf1⟩:=oW fC
 go_wp2_with fail
 refine(gY _ _).mono ?_;rintro e w3 ⟨rfl,rfl⟩
 clear hc1 hf1
 obtain⟨hbel,hn3,hs3,d0,d1,hlt3⟩:=Ko HN.out HS.out fC
 clear fC
 have c0:w3.cell? ⟨b,o,none⟩=some (.string it.kind):=hs3.cell (j:=0) rfl
 have c1:w3.cell? ⟨b,o+1,none⟩=some (.string it.name):=hs3.cell (j:=1) rfl
 have c2:w3.cell? ⟨b,o+2,none⟩=some (.int .i64 it.nameAt):=hs3.cell (j:=2) rfl
 have c4:w3.cell? ⟨b,o+4,none⟩=some (.slice an it.names.length cn):=hs3.cell (j:=4) rfl
 have c5:w3.cell? ⟨b,o+5,none⟩=some jA:=hs3.cell (j:=5) rfl
 have c6:w3.cell? ⟨b,o+6,none⟩=some (.slice ab it.bases.length cb):=hs3.cell (j:=6) rfl
 have c7:w3.cell? ⟨b,o+7,none⟩=some jB:=hs3.cell (j:=7) rfl
 have c3:w3.cell? ⟨b,o+3,none⟩=some (.slice af it.fields.length cf):=hs3.cell (j:=3) rfl
 have fz:∀ j,w3.frozen? ⟨b,j,none⟩=false:=fun j=>hs3.frozen j
 have HB:=hid hbel
 have nK:=hid hn3
 have pI:=hid hs3
 clear hbel hn3 hs3 HN HS
 cases hw:(tt.toList==[123]) with
 | false=>
  have HR:=hid (show ay it 2 ⟨tt,ta,tb⟩=(it,9) by simp[ay,jH,Ah,hw])
  go_wp2_with fail
  go_ret
  exact⟨⟨it,_,_,jA,_,jB⟩,by rw[HR.out];rfl,by rw[HR.out],pI.out,nK.out,Kept.below HB.out hsz hbs,fun _=>HB.out⟩
 | true=>
  cases hm:(it.kind.toList==[109,101,115,115,97,103,101]) with
  | false=>
   have HR:=hid (show ay it 2 ⟨tt,ta,tb⟩=(it,7) by simp[ay,jH,Ah,aX,hw,hm])
   go_wp2_with fail
   go_ret
   exact⟨⟨it,_,_,jA,_,jB⟩,by rw[HR.out];rfl,by rw[HR.out],pI.out,nK.out,Kept.below HB.out hsz hbs,fun _=>HB.out⟩
  | true=>
   have HR:=hid (show ay it 2 ⟨tt,ta,tb⟩=(it,3) by simp[ay,jH,Ah,aX,hw,hm])
   go_wp2_with fail
   go_ret
   exact⟨⟨it,_,_,jA,_,jB⟩,by rw[HR.out];rfl,by rw[HR.out],pI.out,nK.out,Kept.below HB.out hsz hbs,fun _=>HB.out⟩
theorem Vk (w:World) (lo b o:Nat) (x:IV) (t:Tok) (hn:fO w lo x) (hs:Seg w b 88 o (bJ x)) (hlo:b<lo) (hsz:lo≤w.heap.size) (hfit:Fit x.it 3) :
  Calls Tryz.prog 21 #[.pointer (some ⟨b,o,none⟩),.int .i64 3,.agg #[.string t.text,.int .i64 t.at_,.bool t.bad]] w (sQ w lo b o x.it 3 t):=by
 obtain⟨it,vf,vn,jA,vb,jB⟩:=x
 obtain⟨af,cf,hvf⟩:∃ a c,vf=.slice a it.fields.length c:=ak hn.f
 subst hvf
 obtain⟨an,cn,hvn⟩:∃ a c,vn=.slice a it.names.length c:=ak hn.n
 subst hvn
 obtain⟨ab,cb,hvb⟩:∃ a c,vb=.slice a it.bases.length c:=ak hn.b
 subst hvb
 obtain⟨tt,ta,tb⟩:=t
 have hbs:=hs.lt
 have OE:=hlo
 have hfl:it.fields.length≤400:=hfit.2.2.1
 have HP:=hid hfit
 have Ud:=hid (fun gg (hgg:(Value.slice an it.names.length cn).ownBlock=some gg)=>(hn.n.lt gg hgg).2)
 have Zq:=hid (fun gg (hgg:(Value.slice ab it.bases.length cb).ownBlock=some gg)=>(hn.b.lt gg hgg).2)
 have HG:=hid (fun gg (hgg:(Value.slice af it.fields.length cf).ownBlock=some gg)=>(hn.f.lt gg hgg).2)
 have HN:=hid hn
 have HS:=hid hs
 clear hfit hn hs
 go_enter func21,ntmps21
 go_wp2_with fail
 refine(mW _ _).mono ?_;rintro e w1 ⟨rfl,hb1⟩
 obtain⟨hc1,hf1⟩:=oW hb1
 go_wp2_with fail
 refine(kD _ _).mono ?_;rintro e w2 ⟨rfl,hb2⟩
 have fC:=hb1.trans (hb2.mono hb1.size)
 clear hc1 hf1 hb1 hb2
 obtain⟨hc1,hf1⟩:=oW fC
 go_wp2_with fail
 refine(gY _ _).mono ?_;rintro e w3 ⟨rfl,rfl⟩
 clear hc1 hf1
 obtain⟨hbel,hn3,hs3,d0,d1,hlt3⟩:=Ko HN.out HS.out fC
 clear fC
 have c0:w3.cell? ⟨b,o,none⟩=some (.string it.kind):=hs3.cell (j:=0) rfl
 have c1:w3.cell? ⟨b,o+1,none⟩=some (.string it.name):=hs3.cell (j:=1) rfl
 have c2:w3.cell? ⟨b,o+2,none⟩=some (.int .i64 it.nameAt):=hs3.cell (j:=2) rfl
 have c4:w3.cell? ⟨b,o+4,none⟩=some (.slice an it.names.length cn):=hs3.cell (j:=4) rfl
 have c5:w3.cell? ⟨b,o+5,none⟩=some jA:=hs3.cell (j:=5) rfl
 have c6:w3.cell? ⟨b,o+6,none⟩=some (.slice ab it.bases.length cb):=hs3.cell (j:=6) rfl
 have c7:w3.cell? ⟨b,o+7,none⟩=some jB:=hs3.cell (j:=7) rfl
 have c3:w3.cell? ⟨b,o+3,none⟩=some (.slice af it.fields.length cf):=hs3.cell (j:=3) rfl
 have fz:∀ j,w3.frozen? ⟨b,j,none⟩=false:=fun j=>hs3.frozen j
 have HB:=hid hbel
 have nK:=hid hn3
 have pI:=hid hs3
 clear hbel hn3 hs3 HN HS
 cases hnum:jv tt.toList with
 | false=>
  cases hw:(tt.toList==[125]) with
  | false=>
   have HR:=hid (show ay it 3 ⟨tt,ta,tb⟩=(it,9) by simp[ay,jH,qj,hw,hnum])
   go_wp2_with fail
   all_goals go_ret
   all_goals exact⟨⟨it,_,_,jA,_,jB⟩,by rw[HR.out];rfl,by rw[HR.out],pI.out,nK.out,Kept.below HB.out hsz hbs,fun _=>HB.out⟩
  | true=>
   by_cases hf:it.fields=[]
   ·have HR:=hid (show ay it 3 ⟨tt,ta,tb⟩=(it,9) by simp[ay,jH,qj,hnum,hf])
    have hl:((it.fields.length:Int)-1<0):=by rw[hf];decide
    clear hf
    go_wp2_with fail
    go_ret
    exact⟨⟨it,_,_,jA,_,jB⟩,by rw[HR.out];rfl,by rw[HR.out],pI.out,nK.out,Kept.below HB.out hsz hbs,fun _=>HB.out⟩
   ·have HR:=hid (show ay it 3 ⟨tt,ta,tb⟩=(it,0) by simp[ay,jH,qj,hw,hnum,hf])
    have hl:(0≤(it.fields.length:Int)-1):=by have:=List.length_pos_iff.2 hf;omega
    clear hf
    go_wp2_with fail
    go_ret
    exact⟨⟨it,_,_,jA,_,jB⟩,by rw[HR.out];rfl,by rw[HR.out],pI.out,nK.out,Kept.below HB.out hsz hbs,fun _=>HB.out⟩
 | true=>
  obtain⟨kk,hk1,hk2,hk3,hk4⟩:=F5 hnum
  have HR:=hid (show ay it 3 ⟨tt,ta,tb⟩=({ it with fields:=it.fields++[⟨(kk:Int),je,je,je,ta,0,0⟩] },4) by simp only[ay,hnum,if_true];rw[ByteArray.toList_eq,jQ,hk4];rfl)
  obtain⟨i0,hi,hz0,hz1,hz2⟩:=info_parts Tryz.infoField
  go_wp2_with fail
  refine(Tryz.strconv_Atoi tt kk hk3 hk4 _).mono ?_;rintro e w4 ⟨rfl,bt,rfl⟩
  have hb4:=Joins.below_bytesWorld w3.heap.size w3 5 bt (Nat.le_refl _)
  generalize Lib.bytesWorld w3 5 bt=w4 at *
  obtain⟨hn4,hs4,d0',d1',hlt4⟩:=acf nK.out pI.out hb4 hlt3 d0 d1
  have HB4:=hid (HB.out.trans (hb4.mono HB.out.size))
  clear hb4 d0 d1 c0 c1 c2 c3 c4 c5 c6 c7 fz HB nK pI hlt3 hk4 hk3 hnum
  have c3:w4.cell? ⟨b,o+3,none⟩=some (.slice af it.fields.length cf):=hs4.cell (j:=3) rfl
  have fz:∀ j,w4.frozen? ⟨b,j,none⟩=false:=fun j=>hs4.frozen j
  have XG:=hid hn4
  have Nk:=hid hs4
  clear hn4 hs4
  go_wp2_with fail
  have c3a:=lN c3 (show b<w4.heap.size by have:=HB4.out.size;omega)
  have OF:=hid (show w4.ownsRow lo 95 7 (.slice af it.fields.length cf) it.fields.length (it.fields.flatMap aP) from XG.out.f)
  go_region_law (refine step_append_lies _ rfl (.tmp 85) (.tmp 90) 85 rfl lo 95 i0 _ 7 80 underlying85 hi hz0 hz1 hz2 rfl (by decide) _ _ _ (by simp[Act.eval]) (OF.out.alloc _) ⟨w4.heap.size,0,none⟩ 1 1 (aP ⟨kk,⟨#[]⟩,⟨#[]⟩,⟨#[]⟩,ta,0,0⟩) (by simp[Act.eval]) rfl (pV w4 #[.int .i64 kk,.string ⟨#[]⟩,.string ⟨#[]⟩,.string ⟨#[]⟩,.int .i64 ta,.int .i64 0,.int .i64 0] _) (by simp[aP,Value.oneCell']) (by omega) (by unfold maxLen;omega) (by omega) (by have:=HB4.out.size;simp;omega) _ rfl ?_;intro g cp w5 hown' hgrow hat hlt;have hs5:=rP Nk.out OF.out hgrow hlo;have c35:w5.cell? ⟨b,o+3,none⟩=some (.slice af it.fields.length cf):=hs5.cell (j:=3) rfl;have fz5:=hs5.frozen (o+3);have BK:=hid hs5;have Qi:=hid hgrow;have UW:=hid hown';clear hs5 hgrow hown' hat)
  all_goals
   go_wp2_with fail
   go_ret
   have n5:=XG.out.Rn UW.out Qi.out
   exact⟨⟨{ it with fields:=it.fields++[⟨(kk:Int),je,je,je,ta,0,0⟩] },_,_,jA,_,jB⟩,by rw[HR.out];rfl,by rw[HR.out],BK.out.set 3 _,n5.o9 BK.out (o+3) _,(ql (Kept.below HB4.out hsz hbs) OF.out Qi.out hlo (by have:=HB4.out.size;omega)).setCell 3 (by omega) _,fun hh=>by rw[HR.out] at hh;cases hh⟩
theorem Vl (w:World) (lo b o:Nat) (x:IV) (t:Tok) (hn:fO w lo x) (hs:Seg w b 88 o (bJ x)) (hlo:b<lo) (hsz:lo≤w.heap.size) (hfit:Fit x.it 4) :
  Calls Tryz.prog 21 #[.pointer (some ⟨b,o,none⟩),.int .i64 4,.agg #[.string t.text,.int .i64 t.at_,.bool t.bad]] w (sQ w lo b o x.it 4 t):=by
 obtain⟨it,vf,vn,jA,vb,jB⟩:=x
 obtain⟨af,cf,hvf⟩:∃ a c,vf=.slice a it.fields.length c:=ak hn.f
 subst hvf
 obtain⟨an,cn,hvn⟩:∃ a c,vn=.slice a it.names.length c:=ak hn.n
 subst hvn
 obtain⟨ab,cb,hvb⟩:∃ a c,vb=.slice a it.bases.length c:=ak hn.b
 subst hvb
 obtain⟨tt,ta,tb⟩:=t
 have hbs:=hs.lt
 have OE:=hlo
 have hfl:it.fields.length≤400:=hfit.2.2.1
 have HP:=hid hfit
 have Ud:=hid (fun gg (hgg:(Value.slice an it.names.length cn).ownBlock=some gg)=>(hn.n.lt gg hgg).2)
 have Zq:=hid (fun gg (hgg:(Value.slice ab it.bases.length cb).ownBlock=some gg)=>(hn.b.lt gg hgg).2)
 have HG:=hid (fun gg (hgg:(Value.slice af it.fields.length cf).ownBlock=some gg)=>(hn.f.lt gg hgg).2)
 have HN:=hid hn
 have HS:=hid hs
 clear hfit hn hs
 go_enter func21,ntmps21
 go_wp2_with fail
 refine(mW _ _).mono ?_;rintro e w1 ⟨rfl,hb1⟩
 obtain⟨hc1,hf1⟩:=oW hb1
 go_wp2_with fail
 refine(kD _ _).mono ?_;rintro e w2 ⟨rfl,hb2⟩
 have fC:=hb1.trans (hb2.mono hb1.size)
 clear hc1 hf1 hb1 hb2
 obtain⟨hc1,hf1⟩:=oW fC
 go_wp2_with fail
 refine(gY _ _).mono ?_;rintro e w3 ⟨rfl,rfl⟩
 clear hc1 hf1
 obtain⟨hbel,hn3,hs3,d0,d1,hlt3⟩:=Ko HN.out HS.out fC
 clear fC
 have c0:w3.cell? ⟨b,o,none⟩=some (.string it.kind):=hs3.cell (j:=0) rfl
 have c1:w3.cell? ⟨b,o+1,none⟩=some (.string it.name):=hs3.cell (j:=1) rfl
 have c2:w3.cell? ⟨b,o+2,none⟩=some (.int .i64 it.nameAt):=hs3.cell (j:=2) rfl
 have c4:w3.cell? ⟨b,o+4,none⟩=some (.slice an it.names.length cn):=hs3.cell (j:=4) rfl
 have c5:w3.cell? ⟨b,o+5,none⟩=some jA:=hs3.cell (j:=5) rfl
 have c6:w3.cell? ⟨b,o+6,none⟩=some (.slice ab it.bases.length cb):=hs3.cell (j:=6) rfl
 have c7:w3.cell? ⟨b,o+7,none⟩=some jB:=hs3.cell (j:=7) rfl
 have c3:w3.cell? ⟨b,o+3,none⟩=some (.slice af it.fields.length cf):=hs3.cell (j:=3) rfl
 have fz:∀ j,w3.frozen? ⟨b,j,none⟩=false:=fun j=>hs3.frozen j
 have HB:=hid hbel
 have nK:=hid hn3
 have pI:=hid hs3
 clear hbel hn3 hs3 HN HS
 cases hfr:nO tt.toList with
 | false=>
  have HR:=hid (show ay it 4 ⟨tt,ta,tb⟩=(it,9) by simp[ay,hfr])
  go_wp2_with fail
  go_ret
  exact⟨⟨it,_,_,jA,_,jB⟩,by rw[HR.out];rfl,by rw[HR.out],pI.out,nK.out,Kept.below HB.out hsz hbs,fun _=>HB.out⟩
 | true=>
  have hne:it.fields≠[]:=HP.out.2.2.2.2.2.2.2.1 (by omega)
  obtain⟨ll,ff,hll⟩:∃ ll ff,it.fields=ll++[ff]:=⟨it.fields.dropLast,it.fields.getLast hne,(List.dropLast_concat_getLast hne).symm⟩
  obtain⟨g,cp,hgv,hgl,hgs⟩:=nK.out.f.form (List.length_pos_iff.2 hne)
  obtain⟨rfl,rfl⟩:af=some ⟨g,0,none⟩∧cf=cp:=by simpa using hgv
  have Ym:(g=b)=False:=by simp;omega
  have Yn:(b=g)=False:=by simp;omega
  have hmm:it.fields.length=ll.length+1:=by rw[hll];simp
  have ib1:(0:Int)≤(ll.length:Int):=by omega
  have ib2:(ll.length:Int)<(ll.length:Int)+1:=by omega
  have Yo:(g=w.heap.size)=False:=by have:=HG.out g rfl;simp;omega
  have Yp:(w.heap.size=g)=False:=by have:=HG.out g rfl;simp;omega
  have HF:=hid hll
  clear hll hne hgv
  have HR:=hid (show ay it 4 ⟨tt,ta,tb⟩=({ it with fields:=ll++[{ ff with name:=tt,nameAt:=ta }] },5) by simp only[ay,hfr,if_true];rw[HF.out,gy])
  have e1:w3.cell? ⟨g,ll.length*7+1,none⟩=some (.string ff.name):=lZ nK.out HF.out rfl rfl 1 _ rfl
  have e5:w3.cell? ⟨g,ll.length*7+5,none⟩=some (.int .i64 ff.nameAt):=lZ nK.out HF.out rfl rfl 5 _ rfl
  have fg:∀ j,w3.frozen? ⟨g,j,none⟩=false:=fun j=>nK.out.f.frozenAt j
  go_wp2_with fail
  go_region
  all_goals
   go_wp2_with fail
   go_region
  all_goals
   go_wp2_with fail
   go_ret
   have x3:=nK.out.toX HF.out hmm
   have x5:=((x3.store (ll.length*7+1) (.string tt)).store (ll.length*7+5) (.int .i64 ta)).CW (l:=ll) (a:={ ff with name:=tt,nameAt:=ta }) (by rw[iZ,iZ];rfl) hmm
   exact⟨⟨{ it with fields:=ll++[{ ff with name:=tt,nameAt:=ta }] },_,_,jA,_,jB⟩,by rw[HR.out];rfl,by rw[HR.out],(pI.out.uJ (by omega) _ _).uJ (by omega) _ _,x5.drew.drew,(((Kept.below HB.out hsz hbs).qL hgl hlo _ _).qL hgl hlo _ _).drew.drew,fun hh=>by rw[HR.out] at hh;cases hh⟩
theorem Vm (w:World) (lo b o:Nat) (x:IV) (t:Tok) (hn:fO w lo x) (hs:Seg w b 88 o (bJ x)) (hlo:b<lo) (hsz:lo≤w.heap.size) (hfit:Fit x.it 5) :
  Calls Tryz.prog 21 #[.pointer (some ⟨b,o,none⟩),.int .i64 5,.agg #[.string t.text,.int .i64 t.at_,.bool t.bad]] w (sQ w lo b o x.it 5 t):=by
 obtain⟨it,vf,vn,jA,vb,jB⟩:=x
 obtain⟨af,cf,hvf⟩:∃ a c,vf=.slice a it.fields.length c:=ak hn.f
 subst hvf
 obtain⟨an,cn,hvn⟩:∃ a c,vn=.slice a it.names.length c:=ak hn.n
 subst hvn
 obtain⟨ab,cb,hvb⟩:∃ a c,vb=.slice a it.bases.length c:=ak hn.b
 subst hvb
 obtain⟨tt,ta,tb⟩:=t
 have hbs:=hs.lt
 have OE:=hlo
 have hfl:it.fields.length≤400:=hfit.2.2.1
 have HP:=hid hfit
 have Ud:=hid (fun gg (hgg:(Value.slice an it.names.length cn).ownBlock=some gg)=>(hn.n.lt gg hgg).2)
 have Zq:=hid (fun gg (hgg:(Value.slice ab it.bases.length cb).ownBlock=some gg)=>(hn.b.lt gg hgg).2)
 have HG:=hid (fun gg (hgg:(Value.slice af it.fields.length cf).ownBlock=some gg)=>(hn.f.lt gg hgg).2)
 have HN:=hid hn
 have HS:=hid hs
 clear hfit hn hs
 go_enter func21,ntmps21
 go_wp2_with fail
 refine(mW _ _).mono ?_;rintro e w1 ⟨rfl,hb1⟩
 obtain⟨hc1,hf1⟩:=oW hb1
 go_wp2_with fail
 refine(kD _ _).mono ?_;rintro e w2 ⟨rfl,hb2⟩
 have fC:=hb1.trans (hb2.mono hb1.size)
 clear hc1 hf1 hb1 hb2
 obtain⟨hc1,hf1⟩:=oW fC
 go_wp2_with fail
 refine(gY _ _).mono ?_;rintro e w3 ⟨rfl,rfl⟩
 clear hc1 hf1
 obtain⟨hbel,hn3,hs3,d0,d1,hlt3⟩:=Ko HN.out HS.out fC
 clear fC
 have c0:w3.cell? ⟨b,o,none⟩=some (.string it.kind):=hs3.cell (j:=0) rfl
 have c1:w3.cell? ⟨b,o+1,none⟩=some (.string it.name):=hs3.cell (j:=1) rfl
 have c2:w3.cell? ⟨b,o+2,none⟩=some (.int .i64 it.nameAt):=hs3.cell (j:=2) rfl
 have c4:w3.cell? ⟨b,o+4,none⟩=some (.slice an it.names.length cn):=hs3.cell (j:=4) rfl
 have c5:w3.cell? ⟨b,o+5,none⟩=some jA:=hs3.cell (j:=5) rfl
 have c6:w3.cell? ⟨b,o+6,none⟩=some (.slice ab it.bases.length cb):=hs3.cell (j:=6) rfl
 have c7:w3.cell? ⟨b,o+7,none⟩=some jB:=hs3.cell (j:=7) rfl
 have c3:w3.cell? ⟨b,o+3,none⟩=some (.slice af it.fields.length cf):=hs3.cell (j:=3) rfl
 have fz:∀ j,w3.frozen? ⟨b,j,none⟩=false:=fun j=>hs3.frozen j
 have HB:=hid hbel
 have nK:=hid hn3
 have pI:=hid hs3
 clear hbel hn3 hs3 HN HS
 cases hop:(tt.toList==[111,112,116]) with
 | true=>
  have hne:it.fields≠[]:=HP.out.2.2.2.2.2.2.2.1 (by omega)
  obtain⟨ll,ff,hll⟩:∃ ll ff,it.fields=ll++[ff]:=⟨it.fields.dropLast,it.fields.getLast hne,(List.dropLast_concat_getLast hne).symm⟩
  obtain⟨g,cp,hgv,hgl,hgs⟩:=nK.out.f.form (List.length_pos_iff.2 hne)
  obtain⟨rfl,rfl⟩:af=some ⟨g,0,none⟩∧cf=cp:=by simpa using hgv
  have Ym:(g=b)=False:=by simp;omega
  have Yn:(b=g)=False:=by simp;omega
  have hmm:it.fields.length=ll.length+1:=by rw[hll];simp
  have ib1:(0:Int)≤(ll.length:Int):=by omega
  have ib2:(ll.length:Int)<(ll.length:Int)+1:=by omega
  have Yo:(g=w.heap.size)=False:=by have:=HG.out g rfl;simp;omega
  have Yp:(w.heap.size=g)=False:=by have:=HG.out g rfl;simp;omega
  have HF:=hid hll
  clear hll hne hgv
  have HR:=hid (show ay it 5 ⟨tt,ta,tb⟩=({ it with fields:=ll++[{ ff with kind:=tt }] },6) by simp only[ay,jH,kZ,iY,hop,Bool.true_or,if_true];rw[HF.out,gy])
  have e1:w3.cell? ⟨g,ll.length*7+2,none⟩=some (.string ff.kind):=lZ nK.out HF.out rfl rfl 2 _ rfl
  have fg:∀ j,w3.frozen? ⟨g,j,none⟩=false:=fun j=>nK.out.f.frozenAt j
  go_wp2_with fail
  go_region
  all_goals
   go_wp2_with fail
   go_ret
   have x3:=nK.out.toX HF.out hmm
   have x5:=(x3.store (ll.length*7+2) (.string tt)).CW (l:=ll) (a:={ ff with kind:=tt }) (by rw[iZ];rfl) hmm
   exact⟨⟨{ it with fields:=ll++[{ ff with kind:=tt }] },_,_,jA,_,jB⟩,by rw[HR.out];rfl,by rw[HR.out],pI.out.uJ (by omega) _ _,x5.drew,((Kept.below HB.out hsz hbs).qL hgl hlo _ _).drew,fun hh=>by rw[HR.out] at hh;cases hh⟩
 | false=>
  cases hli:(tt.toList==[108,105,115,116]) with
  | true=>
   have hne:it.fields≠[]:=HP.out.2.2.2.2.2.2.2.1 (by omega)
   obtain⟨ll,ff,hll⟩:∃ ll ff,it.fields=ll++[ff]:=⟨it.fields.dropLast,it.fields.getLast hne,(List.dropLast_concat_getLast hne).symm⟩
   obtain⟨g,cp,hgv,hgl,hgs⟩:=nK.out.f.form (List.length_pos_iff.2 hne)
   obtain⟨rfl,rfl⟩:af=some ⟨g,0,none⟩∧cf=cp:=by simpa using hgv
   have Ym:(g=b)=False:=by simp;omega
   have Yn:(b=g)=False:=by simp;omega
   have hmm:it.fields.length=ll.length+1:=by rw[hll];simp
   have ib1:(0:Int)≤(ll.length:Int):=by omega
   have ib2:(ll.length:Int)<(ll.length:Int)+1:=by omega
   have Yo:(g=w.heap.size)=False:=by have:=HG.out g rfl;simp;omega
   have Yp:(w.heap.size=g)=False:=by have:=HG.out g rfl;simp;omega
   have HF:=hid hll
   clear hll hne hgv
   have HR:=hid (show ay it 5 ⟨tt,ta,tb⟩=({ it with fields:=ll++[{ ff with kind:=tt }] },6) by simp only[ay,jH,kZ,iY,hop,hli,Bool.or_true,if_true];rw[HF.out,gy])
   have e1:w3.cell? ⟨g,ll.length*7+2,none⟩=some (.string ff.kind):=lZ nK.out HF.out rfl rfl 2 _ rfl
   have fg:∀ j,w3.frozen? ⟨g,j,none⟩=false:=fun j=>nK.out.f.frozenAt j
   go_wp2_with fail
   go_region
   all_goals
    go_wp2_with fail
    go_ret
    have x3:=nK.out.toX HF.out hmm
    have x5:=(x3.store (ll.length*7+2) (.string tt)).CW (l:=ll) (a:={ ff with kind:=tt }) (by rw[iZ];rfl) hmm
    exact⟨⟨{ it with fields:=ll++[{ ff with kind:=tt }] },_,_,jA,_,jB⟩,by rw[HR.out];rfl,by rw[HR.out],pI.out.uJ (by omega) _ _,x5.drew,((Kept.below HB.out hsz hbs).qL hgl hlo _ _).drew,fun hh=>by rw[HR.out] at hh;cases hh⟩
  | false=>
   cases hba:rM tt.toList with
   | false=>
    have HR:=hid (show ay it 5 ⟨tt,ta,tb⟩=(it,9) by simp[ay,hba,jH,kZ,iY,hop,hli])
    go_wp2_with fail
    go_ret
    exact⟨⟨it,_,_,jA,_,jB⟩,by rw[HR.out];rfl,by rw[HR.out],pI.out,nK.out,Kept.below HB.out hsz hbs,fun _=>HB.out⟩
   | true=>
    have hne:it.fields≠[]:=HP.out.2.2.2.2.2.2.2.1 (by omega)
    obtain⟨ll,ff,hll⟩:∃ ll ff,it.fields=ll++[ff]:=⟨it.fields.dropLast,it.fields.getLast hne,(List.dropLast_concat_getLast hne).symm⟩
    obtain⟨g,cp,hgv,hgl,hgs⟩:=nK.out.f.form (List.length_pos_iff.2 hne)
    obtain⟨rfl,rfl⟩:af=some ⟨g,0,none⟩∧cf=cp:=by simpa using hgv
    have Ym:(g=b)=False:=by simp;omega
    have Yn:(b=g)=False:=by simp;omega
    have hmm:it.fields.length=ll.length+1:=by rw[hll];simp
    have ib1:(0:Int)≤(ll.length:Int):=by omega
    have ib2:(ll.length:Int)<(ll.length:Int)+1:=by omega
    have Yo:(g=w.heap.size)=False:=by have:=HG.out g rfl;simp;omega
    have Yp:(w.heap.size=g)=False:=by have:=HG.out g rfl;simp;omega
    have HF:=hid hll
    clear hll hne hgv
    have HR:=hid (show ay it 5 ⟨tt,ta,tb⟩=({ it with fields:=ll++[{ ff with base:=tt,bV:=ta }] },3) by simp only[ay,hba,jH,kZ,iY,hop,hli,Bool.or_false,if_true];rw[if_neg (by decide)];rw[HF.out,gy])
    have e1:w3.cell? ⟨g,ll.length*7+3,none⟩=some (.string ff.base):=lZ nK.out HF.out rfl rfl 3 _ rfl
    have e5:w3.cell? ⟨g,ll.length*7+6,none⟩=some (.int .i64 ff.bV):=lZ nK.out HF.out rfl rfl 6 _ rfl
    have fg:∀ j,w3.frozen? ⟨g,j,none⟩=false:=fun j=>nK.out.f.frozenAt j
    go_wp2_with fail
    go_region
    all_goals
     go_wp2_with fail
     go_region
    all_goals
     go_wp2_with fail
     go_ret
     have x3:=nK.out.toX HF.out hmm
     have x5:=((x3.store (ll.length*7+3) (.string tt)).store (ll.length*7+6) (.int .i64 ta)).CW (l:=ll) (a:={ ff with base:=tt,bV:=ta }) (by rw[iZ,iZ];rfl) hmm
     exact⟨⟨{ it with fields:=ll++[{ ff with base:=tt,bV:=ta }] },_,_,jA,_,jB⟩,by rw[HR.out];rfl,by rw[HR.out],(pI.out.uJ (by omega) _ _).uJ (by omega) _ _,x5.drew.drew,(((Kept.below HB.out hsz hbs).qL hgl hlo _ _).qL hgl hlo _ _).drew.drew,fun hh=>by rw[HR.out] at hh;cases hh⟩
theorem Vo (w:World) (lo b o:Nat) (x:IV) (t:Tok) (hn:fO w lo x) (hs:Seg w b 88 o (bJ x)) (hlo:b<lo) (hsz:lo≤w.heap.size) (hfit:Fit x.it 6) :
  Calls Tryz.prog 21 #[.pointer (some ⟨b,o,none⟩),.int .i64 6,.agg #[.string t.text,.int .i64 t.at_,.bool t.bad]] w (sQ w lo b o x.it 6 t):=by
 obtain⟨it,vf,vn,jA,vb,jB⟩:=x
 obtain⟨af,cf,hvf⟩:∃ a c,vf=.slice a it.fields.length c:=ak hn.f
 subst hvf
 obtain⟨an,cn,hvn⟩:∃ a c,vn=.slice a it.names.length c:=ak hn.n
 subst hvn
 obtain⟨ab,cb,hvb⟩:∃ a c,vb=.slice a it.bases.length c:=ak hn.b
 subst hvb
 obtain⟨tt,ta,tb⟩:=t
 have hbs:=hs.lt
 have OE:=hlo
 have hfl:it.fields.length≤400:=hfit.2.2.1
 have HP:=hid hfit
 have Ud:=hid (fun gg (hgg:(Value.slice an it.names.length cn).ownBlock=some gg)=>(hn.n.lt gg hgg).2)
 have Zq:=hid (fun gg (hgg:(Value.slice ab it.bases.length cb).ownBlock=some gg)=>(hn.b.lt gg hgg).2)
 have HG:=hid (fun gg (hgg:(Value.slice af it.fields.length cf).ownBlock=some gg)=>(hn.f.lt gg hgg).2)
 have HN:=hid hn
 have HS:=hid hs
 clear hfit hn hs
 go_enter func21,ntmps21
 go_wp2_with fail
 refine(mW _ _).mono ?_;rintro e w1 ⟨rfl,hb1⟩
 obtain⟨hc1,hf1⟩:=oW hb1
 go_wp2_with fail
 refine(kD _ _).mono ?_;rintro e w2 ⟨rfl,hb2⟩
 have fC:=hb1.trans (hb2.mono hb1.size)
 clear hc1 hf1 hb1 hb2
 obtain⟨hc1,hf1⟩:=oW fC
 go_wp2_with fail
 refine(gY _ _).mono ?_;rintro e w3 ⟨rfl,rfl⟩
 clear hc1 hf1
 obtain⟨hbel,hn3,hs3,d0,d1,hlt3⟩:=Ko HN.out HS.out fC
 clear fC
 have c0:w3.cell? ⟨b,o,none⟩=some (.string it.kind):=hs3.cell (j:=0) rfl
 have c1:w3.cell? ⟨b,o+1,none⟩=some (.string it.name):=hs3.cell (j:=1) rfl
 have c2:w3.cell? ⟨b,o+2,none⟩=some (.int .i64 it.nameAt):=hs3.cell (j:=2) rfl
 have c4:w3.cell? ⟨b,o+4,none⟩=some (.slice an it.names.length cn):=hs3.cell (j:=4) rfl
 have c5:w3.cell? ⟨b,o+5,none⟩=some jA:=hs3.cell (j:=5) rfl
 have c6:w3.cell? ⟨b,o+6,none⟩=some (.slice ab it.bases.length cb):=hs3.cell (j:=6) rfl
 have c7:w3.cell? ⟨b,o+7,none⟩=some jB:=hs3.cell (j:=7) rfl
 have c3:w3.cell? ⟨b,o+3,none⟩=some (.slice af it.fields.length cf):=hs3.cell (j:=3) rfl
 have fz:∀ j,w3.frozen? ⟨b,j,none⟩=false:=fun j=>hs3.frozen j
 have HB:=hid hbel
 have nK:=hid hn3
 have pI:=hid hs3
 clear hbel hn3 hs3 HN HS
 cases hba:rM tt.toList with
 | false=>
  have HR:=hid (show ay it 6 ⟨tt,ta,tb⟩=(it,9) by simp[ay,hba])
  go_wp2_with fail
  go_ret
  exact⟨⟨it,_,_,jA,_,jB⟩,by rw[HR.out];rfl,by rw[HR.out],pI.out,nK.out,Kept.below HB.out hsz hbs,fun _=>HB.out⟩
 | true=>
  have hne:it.fields≠[]:=HP.out.2.2.2.2.2.2.2.1 (by omega)
  obtain⟨ll,ff,hll⟩:∃ ll ff,it.fields=ll++[ff]:=⟨it.fields.dropLast,it.fields.getLast hne,(List.dropLast_concat_getLast hne).symm⟩
  obtain⟨g,cp,hgv,hgl,hgs⟩:=nK.out.f.form (List.length_pos_iff.2 hne)
  obtain⟨rfl,rfl⟩:af=some ⟨g,0,none⟩∧cf=cp:=by simpa using hgv
  have Ym:(g=b)=False:=by simp;omega
  have Yn:(b=g)=False:=by simp;omega
  have hmm:it.fields.length=ll.length+1:=by rw[hll];simp
  have ib1:(0:Int)≤(ll.length:Int):=by omega
  have ib2:(ll.length:Int)<(ll.length:Int)+1:=by omega
  have Yo:(g=w.heap.size)=False:=by have:=HG.out g rfl;simp;omega
  have Yp:(w.heap.size=g)=False:=by have:=HG.out g rfl;simp;omega
  have HF:=hid hll
  clear hll hne hgv
  have HR:=hid (show ay it 6 ⟨tt,ta,tb⟩=({ it with fields:=ll++[{ ff with base:=tt,bV:=ta }] },3) by simp only[ay,hba,if_true];rw[HF.out,gy])
  have e1:w3.cell? ⟨g,ll.length*7+3,none⟩=some (.string ff.base):=lZ nK.out HF.out rfl rfl 3 _ rfl
  have e5:w3.cell? ⟨g,ll.length*7+6,none⟩=some (.int .i64 ff.bV):=lZ nK.out HF.out rfl rfl 6 _ rfl
  have fg:∀ j,w3.frozen? ⟨g,j,none⟩=false:=fun j=>nK.out.f.frozenAt j
  go_wp2_with fail
  go_region
  all_goals
   go_wp2_with fail
   go_region
  all_goals
   go_wp2_with fail
   go_ret
   have x3:=nK.out.toX HF.out hmm
   have x5:=((x3.store (ll.length*7+3) (.string tt)).store (ll.length*7+6) (.int .i64 ta)).CW (l:=ll) (a:={ ff with base:=tt,bV:=ta }) (by rw[iZ,iZ];rfl) hmm
   exact⟨⟨{ it with fields:=ll++[{ ff with base:=tt,bV:=ta }] },_,_,jA,_,jB⟩,by rw[HR.out];rfl,by rw[HR.out],(pI.out.uJ (by omega) _ _).uJ (by omega) _ _,x5.drew.drew,(((Kept.below HB.out hsz hbs).qL hgl hlo _ _).qL hgl hlo _ _).drew.drew,fun hh=>by rw[HR.out] at hh;cases hh⟩
theorem Vp (w:World) (lo b o:Nat) (x:IV) (t:Tok) (hn:fO w lo x) (hs:Seg w b 88 o (bJ x)) (hlo:b<lo) (hsz:lo≤w.heap.size) (hfit:Fit x.it 7) :
  Calls Tryz.prog 21 #[.pointer (some ⟨b,o,none⟩),.int .i64 7,.agg #[.string t.text,.int .i64 t.at_,.bool t.bad]] w (sQ w lo b o x.it 7 t):=by
 obtain⟨it,vf,vn,jA,vb,jB⟩:=x
 obtain⟨af,cf,hvf⟩:∃ a c,vf=.slice a it.fields.length c:=ak hn.f
 subst hvf
 obtain⟨an,cn,hvn⟩:∃ a c,vn=.slice a it.names.length c:=ak hn.n
 subst hvn
 obtain⟨ab,cb,hvb⟩:∃ a c,vb=.slice a it.bases.length c:=ak hn.b
 subst hvb
 obtain⟨tt,ta,tb⟩:=t
 have hbs:=hs.lt
 have OE:=hlo
 have hfl:it.fields.length≤400:=hfit.2.2.1
 have HP:=hid hfit
 have Ud:=hid (fun gg (hgg:(Value.slice an it.names.length cn).ownBlock=some gg)=>(hn.n.lt gg hgg).2)
 have Zq:=hid (fun gg (hgg:(Value.slice ab it.bases.length cb).ownBlock=some gg)=>(hn.b.lt gg hgg).2)
 have HG:=hid (fun gg (hgg:(Value.slice af it.fields.length cf).ownBlock=some gg)=>(hn.f.lt gg hgg).2)
 have HN:=hid hn
 have HS:=hid hs
 clear hfit hn hs
 go_enter func21,ntmps21
 go_wp2_with fail
 refine(mW _ _).mono ?_;rintro e w1 ⟨rfl,hb1⟩
 obtain⟨hc1,hf1⟩:=oW hb1
 go_wp2_with fail
 refine(kD _ _).mono ?_;rintro e w2 ⟨rfl,hb2⟩
 have fC:=hb1.trans (hb2.mono hb1.size)
 clear hc1 hf1 hb1 hb2
 obtain⟨hc1,hf1⟩:=oW fC
 go_wp2_with fail
 refine(gY _ _).mono ?_;rintro e w3 ⟨rfl,rfl⟩
 clear hc1 hf1
 obtain⟨hbel,hn3,hs3,d0,d1,hlt3⟩:=Ko HN.out HS.out fC
 clear fC
 have c0:w3.cell? ⟨b,o,none⟩=some (.string it.kind):=hs3.cell (j:=0) rfl
 have c1:w3.cell? ⟨b,o+1,none⟩=some (.string it.name):=hs3.cell (j:=1) rfl
 have c2:w3.cell? ⟨b,o+2,none⟩=some (.int .i64 it.nameAt):=hs3.cell (j:=2) rfl
 have c4:w3.cell? ⟨b,o+4,none⟩=some (.slice an it.names.length cn):=hs3.cell (j:=4) rfl
 have c5:w3.cell? ⟨b,o+5,none⟩=some jA:=hs3.cell (j:=5) rfl
 have c6:w3.cell? ⟨b,o+6,none⟩=some (.slice ab it.bases.length cb):=hs3.cell (j:=6) rfl
 have c7:w3.cell? ⟨b,o+7,none⟩=some jB:=hs3.cell (j:=7) rfl
 have c3:w3.cell? ⟨b,o+3,none⟩=some (.slice af it.fields.length cf):=hs3.cell (j:=3) rfl
 have fz:∀ j,w3.frozen? ⟨b,j,none⟩=false:=fun j=>hs3.frozen j
 have HB:=hid hbel
 have nK:=hid hn3
 have pI:=hid hs3
 clear hbel hn3 hs3 HN HS
 have HG2:=hid (fun gg (hgg:(Value.slice an it.names.length cn).ownBlock=some gg)=>Ud.out gg hgg)
 have hq1:it.names.length≤400:=HP.out.2.2.2.1
 have hq2:it.aQ.length≤400:=HP.out.2.2.2.2.1
 cases hw:(tt.toList==[125]) with
 | true=>
  have hfr:nO tt.toList=false:=by rw[eq_of_beq hw];decide
  by_cases hf:it.names=[]
  ·have HR:=hid (show ay it 7 ⟨tt,ta,tb⟩=(it,9) by simp[ay,hfr,hf])
   have hl:(it.names.length:Int)≤0:=by rw[hf];decide
   clear hf
   go_wp2_with fail
   go_ret
   exact⟨⟨it,_,_,jA,_,jB⟩,by rw[HR.out];rfl,by rw[HR.out],pI.out,nK.out,Kept.below HB.out hsz hbs,fun _=>HB.out⟩
  ·have HR:=hid (show ay it 7 ⟨tt,ta,tb⟩=(it,0) by simp[ay,jH,qj,hw,hf])
   have hl:(0<(it.names.length:Int)):=by have:=List.length_pos_iff.2 hf;omega
   clear hf
   go_wp2_with fail
   go_ret
   exact⟨⟨it,_,_,jA,_,jB⟩,by rw[HR.out];rfl,by rw[HR.out],pI.out,nK.out,Kept.below HB.out hsz hbs,fun _=>HB.out⟩
 | false=>
  cases hfr:nO tt.toList with
  | false=>
   have HR:=hid (show ay it 7 ⟨tt,ta,tb⟩=(it,9) by simp[ay,jH,qj,hw,hfr])
   go_wp2_with fail
   all_goals go_ret
   all_goals exact⟨⟨it,_,_,jA,_,jB⟩,by rw[HR.out];rfl,by rw[HR.out],pI.out,nK.out,Kept.below HB.out hsz hbs,fun _=>HB.out⟩
  | true=>
   have HR:=hid (show ay it 7 ⟨tt,ta,tb⟩=({ it with names:=it.names++[tt],aQ:=it.aQ++[ta] },7) by simp[ay,jH,qj,hw,hfr])
   have hpar:(0<(it.names.length:Int))∨((it.names.length:Int)≤0):=by omega
   rcases hpar with hpar | hpar
   all_goals
    obtain⟨iS,hiS,hS0,hS1,hS2⟩:=info_parts Tryz.infoStr
    obtain⟨iI,wX,hI0,hI1,hI2⟩:=info_parts Tryz.infoInt
    have HZ1:=hid (HP.out.2.2.2.2.2.2.2.2.1 rfl)
    have c1a:=lN c4 (show b<w3.heap.size by omega)
    have Vq:(b=w.heap.size)=False:=by simp;omega
    have Vr:(w.heap.size=b)=False:=by simp;omega
    have OF:=hid (show w3.ownsRow lo 9 1 (.slice an it.names.length cn) it.names.length (it.names.map aY) from nK.out.n)
    have HQ:=hid (show some w.heap.size≠(Value.slice an it.names.length cn).ownBlock from fun hh=>by have:=HG2.out _ hh.symm;omega)
    go_wp2_with fail
    go_region_law (refine step_append_lies _ rfl (.tmp 202) (.tmp 205) 31 rfl lo 9 iS _ 1 16 underlying31 hiS hS0 hS1 hS2 rfl (by decide) _ _ _ (by simp[Act.eval]) (OF.out.alloc _) ⟨w3.heap.size,0,none⟩ 1 1 [aY tt] (by simp[Act.eval]) rfl (pV w3 #[.string tt] _) (by simp[aY,Value.oneCell']) (by omega) (by unfold maxLen;omega) (by omega) (by have:=HB.out.size;simp;omega) _ rfl ?_;intro g cp w5 hown' hgrow hat hlt;have hs5:=rP pI.out OF.out hgrow hlo;have c15:w5.cell? ⟨b,o+4,none⟩=some (.slice an it.names.length cn):=hs5.cell (j:=4) rfl;have c25:w5.cell? ⟨b,o+5,none⟩=some jA:=hs5.cell (j:=5) rfl;have c05:w5.cell? ⟨b,o,none⟩=some (.string it.kind):=hs5.cell (j:=0) rfl;have d15:=CX hgrow d1 hlt3 HQ.out;have fz5:∀ j,w5.frozen? ⟨b,j,none⟩=false:=fun j=>hs5.frozen j;have BK:=hid hs5;have Qi:=hid hgrow;have UW:=hid hown';clear hs5 hgrow hown' hat)
    all_goals
     have n5:=nK.out.UJ HZ1.out.1 UW.out Qi.out
     have n6:=n5.o9 BK.out (o+4) (.slice (some ⟨g,0,none⟩) (it.names.length+1) cp)
     have Yq:=hid n6
     have s6:=hid (BK.out.set 4 (.slice (some ⟨g,0,none⟩) (it.names.length+1) cp))
     have HK6:=hid ((ql (Kept.below (o:=o) HB.out hsz hbs) OF.out Qi.out hlo (by have:=HB.out.size;omega)).setCell 4 (by omega) (.slice (some ⟨g,0,none⟩) (it.names.length+1) cp))
     have hsz5:=Kq Qi.out
     clear n5 n6 c0 c1 c2 c3 c4 c5 c6 c7 c1a d0 d1 fz
     have c2a:=lN (w4:=w5.setCell ⟨b,o+4,none⟩ (.slice (some ⟨g,0,none⟩) (it.names.length+1) cp)) (a:=⟨b,o+5,none⟩) (v:=jA) (s6.out.cell (j:=5) rfl) (show b<_ by simp[World.setCell];omega)
     have ON:=hid (show (w5.setCell ⟨b,o+4,none⟩ (.slice (some ⟨g,0,none⟩) (it.names.length+1) cp)).ownsRow lo 3 1 jA it.aQ.length (it.aQ.map eX) from Yq.out.na)
     go_wp2_with fail
     go_region_law (refine step_append_lies _ rfl (.tmp 213) (.tmp 216) 86 rfl lo 3 iI _ 1 8 underlying86 wX hI0 hI1 hI2 rfl (by decide) _ _ _ (by simp[Act.eval]) (ON.out.alloc _) ⟨w5.heap.size,0,none⟩ 1 1 [eX ta] (by simp[Act.eval]) rfl (dh (w5.setCell ⟨b,o+4,none⟩ (.slice (some ⟨g,0,none⟩) (it.names.length+1) cp)) w5.heap.size (by simp[World.setCell]) #[.int .i64 ta] _) (by simp[eX,Value.oneCell']) (by omega) (by unfold maxLen;omega) (by omega) (by have:=HB.out.size;simp[World.setCell];omega) _ rfl ?_;intro g2 cp2 w7 hown' hgrow UY hlt2;have hs7:=rP s6.out ON.out hgrow hlo;have c17:w7.cell? ⟨b,o+4,none⟩=some (.slice (some ⟨g,0,none⟩) (it.names.length+1) cp):=hs7.cell (j:=4) rfl;have c27:w7.cell? ⟨b,o+5,none⟩=some jA:=hs7.cell (j:=5) rfl;have c07:w7.cell? ⟨b,o,none⟩=some (.string it.kind):=hs7.cell (j:=0) rfl;have fz7:∀ j,w7.frozen? ⟨b,j,none⟩=false:=fun j=>hs7.frozen j;have Zr:=hid hs7;have HG7:=hid hgrow;have HO7:=hid hown';clear hs7 hgrow hown' UY)
    all_goals
     go_wp2_with fail
     go_ret
     have n7:=Yq.out.NV HZ1.out.2 HO7.out HG7.out
     have n8:=n7.o9 Zr.out (o+5) (.slice (some ⟨g2,0,none⟩) (it.aQ.length+1) cp2)
     exact⟨_,by rw[HR.out];rfl,by rw[HR.out],Zr.out.set 5 _,n8,(ql HK6.out ON.out HG7.out hlo (by have:=HB.out.size;simp[World.setCell];omega)).setCell 5 (by omega) _,fun hh=>by rw[HR.out] at hh;cases hh⟩
theorem Vs (w:World) (lo b o:Nat) (x:IV) (t:Tok) (hn:fO w lo x) (hs:Seg w b 88 o (bJ x)) (hlo:b<lo) (hsz:lo≤w.heap.size) (hfit:Fit x.it 8) :
  Calls Tryz.prog 21 #[.pointer (some ⟨b,o,none⟩),.int .i64 8,.agg #[.string t.text,.int .i64 t.at_,.bool t.bad]] w (sQ w lo b o x.it 8 t):=by
 obtain⟨it,vf,vn,jA,vb,jB⟩:=x
 obtain⟨af,cf,hvf⟩:∃ a c,vf=.slice a it.fields.length c:=ak hn.f
 subst hvf
 obtain⟨an,cn,hvn⟩:∃ a c,vn=.slice a it.names.length c:=ak hn.n
 subst hvn
 obtain⟨ab,cb,hvb⟩:∃ a c,vb=.slice a it.bases.length c:=ak hn.b
 subst hvb
 obtain⟨tt,ta,tb⟩:=t
 have hbs:=hs.lt
 have OE:=hlo
 have hfl:it.fields.length≤400:=hfit.2.2.1
 have HP:=hid hfit
 have Ud:=hid (fun gg (hgg:(Value.slice an it.names.length cn).ownBlock=some gg)=>(hn.n.lt gg hgg).2)
 have Zq:=hid (fun gg (hgg:(Value.slice ab it.bases.length cb).ownBlock=some gg)=>(hn.b.lt gg hgg).2)
 have HG:=hid (fun gg (hgg:(Value.slice af it.fields.length cf).ownBlock=some gg)=>(hn.f.lt gg hgg).2)
 have HN:=hid hn
 have HS:=hid hs
 clear hfit hn hs
 go_enter func21,ntmps21
 go_wp2_with fail
 refine(mW _ _).mono ?_;rintro e w1 ⟨rfl,hb1⟩
 obtain⟨hc1,hf1⟩:=oW hb1
 go_wp2_with fail
 refine(kD _ _).mono ?_;rintro e w2 ⟨rfl,hb2⟩
 have fC:=hb1.trans (hb2.mono hb1.size)
 clear hc1 hf1 hb1 hb2
 obtain⟨hc1,hf1⟩:=oW fC
 go_wp2_with fail
 refine(gY _ _).mono ?_;rintro e w3 ⟨rfl,rfl⟩
 clear hc1 hf1
 obtain⟨hbel,hn3,hs3,d0,d1,hlt3⟩:=Ko HN.out HS.out fC
 clear fC
 have c0:w3.cell? ⟨b,o,none⟩=some (.string it.kind):=hs3.cell (j:=0) rfl
 have c1:w3.cell? ⟨b,o+1,none⟩=some (.string it.name):=hs3.cell (j:=1) rfl
 have c2:w3.cell? ⟨b,o+2,none⟩=some (.int .i64 it.nameAt):=hs3.cell (j:=2) rfl
 have c4:w3.cell? ⟨b,o+4,none⟩=some (.slice an it.names.length cn):=hs3.cell (j:=4) rfl
 have c5:w3.cell? ⟨b,o+5,none⟩=some jA:=hs3.cell (j:=5) rfl
 have c6:w3.cell? ⟨b,o+6,none⟩=some (.slice ab it.bases.length cb):=hs3.cell (j:=6) rfl
 have c7:w3.cell? ⟨b,o+7,none⟩=some jB:=hs3.cell (j:=7) rfl
 have c3:w3.cell? ⟨b,o+3,none⟩=some (.slice af it.fields.length cf):=hs3.cell (j:=3) rfl
 have fz:∀ j,w3.frozen? ⟨b,j,none⟩=false:=fun j=>hs3.frozen j
 have HB:=hid hbel
 have nK:=hid hn3
 have pI:=hid hs3
 clear hbel hn3 hs3 HN HS
 have HG2:=hid (fun gg (hgg:(Value.slice ab it.bases.length cb).ownBlock=some gg)=>Zq.out gg hgg)
 have hq1:it.bases.length≤400:=HP.out.2.2.2.2.2.1
 have hq2:it.aV.length≤400:=HP.out.2.2.2.2.2.2.1
 cases hba:rM tt.toList with
 | false=>
  have HR:=hid (show ay it 8 ⟨tt,ta,tb⟩=(it,9) by simp[ay,hba])
  go_wp2_with fail
  go_ret
  exact⟨⟨it,_,_,jA,_,jB⟩,by rw[HR.out];rfl,by rw[HR.out],pI.out,nK.out,Kept.below HB.out hsz hbs,fun _=>HB.out⟩
 | true=>
  obtain⟨st,hst,hca⟩:∃ st:Nat,Hid (ay it 8 ⟨tt,ta,tb⟩=({ it with bases:=it.bases++[tt],aV:=it.aV++[ta] },st))∧((st=8∧(it.kind.toList==[99,97,108,108])=true∧(it.bases.length:Int)=0)∨(st=0∧(it.kind.toList==[99,97,108,108])=true∧0<(it.bases.length:Int))∨(st=0∧(it.kind.toList==[99,97,108,108])=false)):=by
   cases hk:(it.kind.toList==[99,97,108,108])
   ·exact⟨0,by simp[Hid,ay,hba,jH,iE,hk],by simp⟩
   ·by_cases hb0:it.bases=[]
    ·exact⟨8,by simp[Hid,ay,hba,jH,iE,hk,hb0],by simp[hb0]⟩
    ·have:=List.length_pos_iff.2 hb0
     exact⟨0,by simp[Hid,ay,hba,jH,iE,hk,hb0],by simp;omega⟩
  have HR:=hst
  rcases hca with⟨rfl,hk,hlen⟩ | ⟨rfl,hk,hlen⟩ | ⟨rfl,hk⟩
  all_goals
   obtain⟨iS,hiS,hS0,hS1,hS2⟩:=info_parts Tryz.infoStr
   obtain⟨iI,wX,hI0,hI1,hI2⟩:=info_parts Tryz.infoInt
   have HZ1:=hid (HP.out.2.2.2.2.2.2.2.2.2 rfl)
   have c1a:=lN c6 (show b<w3.heap.size by omega)
   have Vq:(b=w.heap.size)=False:=by simp;omega
   have Vr:(w.heap.size=b)=False:=by simp;omega
   have OF:=hid (show w3.ownsRow lo 9 1 (.slice ab it.bases.length cb) it.bases.length (it.bases.map aY) from nK.out.b)
   have HQ:=hid (show some w.heap.size≠(Value.slice ab it.bases.length cb).ownBlock from fun hh=>by have:=HG2.out _ hh.symm;omega)
   go_wp2_with fail
   go_region_law (refine step_append_lies _ rfl (.tmp 230) (.tmp 233) 31 rfl lo 9 iS _ 1 16 underlying31 hiS hS0 hS1 hS2 rfl (by decide) _ _ _ (by simp[Act.eval]) (OF.out.alloc _) ⟨w3.heap.size,0,none⟩ 1 1 [aY tt] (by simp[Act.eval]) rfl (pV w3 #[.string tt] _) (by simp[aY,Value.oneCell']) (by omega) (by unfold maxLen;omega) (by omega) (by have:=HB.out.size;simp;omega) _ rfl ?_;intro g cp w5 hown' hgrow hat hlt;have hs5:=rP pI.out OF.out hgrow hlo;have c15:w5.cell? ⟨b,o+6,none⟩=some (.slice ab it.bases.length cb):=hs5.cell (j:=6) rfl;have c25:w5.cell? ⟨b,o+7,none⟩=some jB:=hs5.cell (j:=7) rfl;have c05:w5.cell? ⟨b,o,none⟩=some (.string it.kind):=hs5.cell (j:=0) rfl;have d15:=CX hgrow d1 hlt3 HQ.out;have fz5:∀ j,w5.frozen? ⟨b,j,none⟩=false:=fun j=>hs5.frozen j;have BK:=hid hs5;have Qi:=hid hgrow;have UW:=hid hown';clear hs5 hgrow hown' hat)
   all_goals
    have n5:=nK.out.UK HZ1.out.1 UW.out Qi.out
    have n6:=n5.o9 BK.out (o+6) (.slice (some ⟨g,0,none⟩) (it.bases.length+1) cp)
    have Yq:=hid n6
    have s6:=hid (BK.out.set 6 (.slice (some ⟨g,0,none⟩) (it.bases.length+1) cp))
    have HK6:=hid ((ql (Kept.below (o:=o) HB.out hsz hbs) OF.out Qi.out hlo (by have:=HB.out.size;omega)).setCell 6 (by omega) (.slice (some ⟨g,0,none⟩) (it.bases.length+1) cp))
    have hsz5:=Kq Qi.out
    clear n5 n6 c0 c1 c2 c3 c4 c5 c6 c7 c1a d0 d1 fz
    have c2a:=lN (w4:=w5.setCell ⟨b,o+6,none⟩ (.slice (some ⟨g,0,none⟩) (it.bases.length+1) cp)) (a:=⟨b,o+7,none⟩) (v:=jB) (s6.out.cell (j:=7) rfl) (show b<_ by simp[World.setCell];omega)
    have ON:=hid (show (w5.setCell ⟨b,o+6,none⟩ (.slice (some ⟨g,0,none⟩) (it.bases.length+1) cp)).ownsRow lo 3 1 jB it.aV.length (it.aV.map eX) from Yq.out.ba)
    go_wp2_with fail
    go_region_law (refine step_append_lies _ rfl (.tmp 241) (.tmp 244) 86 rfl lo 3 iI _ 1 8 underlying86 wX hI0 hI1 hI2 rfl (by decide) _ _ _ (by simp[Act.eval]) (ON.out.alloc _) ⟨w5.heap.size,0,none⟩ 1 1 [eX ta] (by simp[Act.eval]) rfl (dh (w5.setCell ⟨b,o+6,none⟩ (.slice (some ⟨g,0,none⟩) (it.bases.length+1) cp)) w5.heap.size (by simp[World.setCell]) #[.int .i64 ta] _) (by simp[eX,Value.oneCell']) (by omega) (by unfold maxLen;omega) (by omega) (by have:=HB.out.size;simp[World.setCell];omega) _ rfl ?_;intro g2 cp2 w7 hown' hgrow UY hlt2;have hs7:=rP s6.out ON.out hgrow hlo;have c17:w7.cell? ⟨b,o+6,none⟩=some (.slice (some ⟨g,0,none⟩) (it.bases.length+1) cp):=hs7.cell (j:=6) rfl;have c27:w7.cell? ⟨b,o+7,none⟩=some jB:=hs7.cell (j:=7) rfl;have c07:w7.cell? ⟨b,o,none⟩=some (.string it.kind):=hs7.cell (j:=0) rfl;have fz7:∀ j,w7.frozen? ⟨b,j,none⟩=false:=fun j=>hs7.frozen j;have Zr:=hid hs7;have HG7:=hid hgrow;have HO7:=hid hown';clear hs7 hgrow hown' UY)
   all_goals
    go_wp2_with fail
    go_ret
    have n7:=Yq.out.NW HZ1.out.2 HO7.out HG7.out
    have n8:=n7.o9 Zr.out (o+7) (.slice (some ⟨g2,0,none⟩) (it.aV.length+1) cp2)
    exact⟨_,by rw[HR.out];rfl,by rw[HR.out],Zr.out.set 7 _,n8,(ql HK6.out ON.out HG7.out hlo (by have:=HB.out.size;simp[World.setCell];omega)).setCell 7 (by omega) _,fun hh=>by rw[HR.out] at hh;cases hh⟩
end Go.Proofs.YtgalebcpagmohaaGreatDoor

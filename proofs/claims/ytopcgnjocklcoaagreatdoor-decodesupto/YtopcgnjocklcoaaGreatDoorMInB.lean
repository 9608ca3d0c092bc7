/- inItem of package courierref: one token at station 3. -/
import Derived.Test.YtopcgnjocklcoaaGreatDoorMKept
namespace Go.Proofs.YtopcgnjocklcoaaGreatDoor
open Go.RowKit
set_option maxRecDepth 100000 in
set_option maxHeartbeats 1000000 in
theorem inItem_3 (w:World) (lo b o:Nat) (x:IV) (t:Tok) (hn:Nest w lo x) (hs:Seg w b 96 o (ivCells x)) (hlo:b < lo) (hsz:lo ≤ w.heap.size) (hfit:Fit x.it 3) :
  Calls Tryz.prog 45 #[.pointer (some ⟨b,o,none⟩),.int .i64 3,.agg #[.string t.text,.int .i64 t.at_,.bool t.bad]] w (InPost w lo b o x.it 3 t):=by
 obtain ⟨it,vf,vn,vna,vb,vba⟩:=x
 obtain ⟨af,cf,hvf⟩:∃ a c,vf = .slice a it.fields.length c:=own_slice hn.f
 subst hvf
 obtain ⟨an,cn,hvn⟩:∃ a c,vn = .slice a it.names.length c:=own_slice hn.n
 subst hvn
 obtain ⟨ab,cb,hvb⟩:∃ a c,vb = .slice a it.bases.length c:=own_slice hn.b
 subst hvb
 obtain ⟨tt,ta,tb⟩:=t
 have hbs:=hs.lt
 have _hlo:=hlo
 have hfl:it.fields.length ≤ 400:=hfit.2.2.1
 have HP:=hid hfit
 have HGN:=hid (fun gg (hgg:(Value.slice an it.names.length cn).ownBlock = some gg)=>(hn.n.lt gg hgg).2)
 have HGB:=hid (fun gg (hgg:(Value.slice ab it.bases.length cb).ownBlock = some gg)=>(hn.b.lt gg hgg).2)
 have HG:=hid (fun gg (hgg:(Value.slice af it.fields.length cf).ownBlock = some gg)=>(hn.f.lt gg hgg).2)
 have HN:=hid hn
 have HS:=hid hs
 clear hfit hn hs
 go_enter Tryz.func45,Tryz.ntmps45
 go_wp2_with fail
 refine (free_any _ _).mono ?_;rintro e w1 ⟨rfl,hb1⟩
 obtain ⟨hc1,hf1⟩:=bcell hb1
 go_wp2_with fail
 refine (isBase_any _ _).mono ?_;rintro e w2 ⟨rfl,hb2⟩
 have hb12:=hb1.trans (hb2.mono hb1.size)
 clear hc1 hf1 hb1 hb2
 obtain ⟨hc1,hf1⟩:=bcell hb12
 go_wp2_with fail
 refine (isNumber_any _ _).mono ?_;rintro e w3 ⟨rfl,rfl⟩
 clear hc1 hf1
 obtain ⟨hbel,hn3,hs3,d0,d1,hlt3⟩:=prep HN.out HS.out hb12
 clear hb12
 have c0:w3.cell? ⟨b,o,none⟩ = some (.string it.kind):=hs3.cell (j:=0) rfl
 have c1:w3.cell? ⟨b,o + 1,none⟩ = some (.string it.name):=hs3.cell (j:=1) rfl
 have c2:w3.cell? ⟨b,o + 2,none⟩ = some (.int .i64 it.nameAt):=hs3.cell (j:=2) rfl
 have c4:w3.cell? ⟨b,o + 4,none⟩ = some (.slice an it.names.length cn):=hs3.cell (j:=4) rfl
 have c5:w3.cell? ⟨b,o + 5,none⟩ = some vna:=hs3.cell (j:=5) rfl
 have c6:w3.cell? ⟨b,o + 6,none⟩ = some (.slice ab it.bases.length cb):=hs3.cell (j:=6) rfl
 have c7:w3.cell? ⟨b,o + 7,none⟩ = some vba:=hs3.cell (j:=7) rfl
 have c3:w3.cell? ⟨b,o + 3,none⟩ = some (.slice af it.fields.length cf):=hs3.cell (j:=3) rfl
 have fz:∀ j,w3.frozen? ⟨b,j,none⟩ = false:=fun j=>hs3.frozen j
 have HB:=hid hbel
 have HN3:=hid hn3
 have HS3:=hid hs3
 clear hbel hn3 hs3 HN HS
 cases hnum:numB tt.toList with
 | false =>
  cases hw:(tt.toList == [125]) with
  | false =>
   have HR:=hid (show inItemP it 3 ⟨tt,ta,tb⟩ = (it,9) by simp [inItemP,isW,wShut,hw,hnum])
   go_wp2_with fail
   all_goals go_ret
   all_goals exact ⟨⟨it,_,_,vna,_,vba⟩,by rw [HR.out];rfl,by rw [HR.out],HS3.out,HN3.out,Kept.below HB.out hsz hbs,fun _=>HB.out⟩
  | true =>
   by_cases hf:it.fields = []
   ·have HR:=hid (show inItemP it 3 ⟨tt,ta,tb⟩ = (it,9) by simp [inItemP,isW,wShut,hnum,hf])
    have hl:((it.fields.length:Int) - 1 < 0):=by rw [hf];decide
    clear hf
    go_wp2_with fail
    go_ret
    exact ⟨⟨it,_,_,vna,_,vba⟩,by rw [HR.out];rfl,by rw [HR.out],HS3.out,HN3.out,Kept.below HB.out hsz hbs,fun _=>HB.out⟩
   ·have HR:=hid (show inItemP it 3 ⟨tt,ta,tb⟩ = (it,0) by simp [inItemP,isW,wShut,hw,hnum,hf])
    have hl:(0 ≤ (it.fields.length:Int) - 1):=by have:=List.length_pos_iff.2 hf;omega
    clear hf
    go_wp2_with fail
    go_ret
    exact ⟨⟨it,_,_,vna,_,vba⟩,by rw [HR.out];rfl,by rw [HR.out],HS3.out,HN3.out,Kept.below HB.out hsz hbs,fun _=>HB.out⟩
 | true =>
  obtain ⟨kk,hk1,hk2,hk3,hk4⟩:=numB_atoi hnum
  have HR:=hid (show inItemP it 3 ⟨tt,ta,tb⟩ = ({ it with fields:=it.fields ++ [⟨(kk:Int),emptyB,emptyB,emptyB,ta,0,0⟩] },4) by simp only [inItemP,hnum,if_true];rw [ByteArray.toList_eq,numI,hk4];rfl)
  obtain ⟨i0,hi,hz0,hz1,hz2⟩:=info_parts Tryz.infoField
  go_wp2_with fail
  refine (Tryz.strconv_Atoi tt kk hk3 hk4 _).mono ?_;rintro e w4 ⟨rfl,bt,rfl⟩
  have hb4:=Joins.below_bytesWorld w3.heap.size w3 5 bt (Nat.le_refl _)
  generalize Lib.bytesWorld w3 5 bt = w4 at *
  obtain ⟨hn4,hs4,d0',d1',hlt4⟩:=prep2 HN3.out HS3.out hb4 hlt3 d0 d1
  have HB4:=hid (HB.out.trans (hb4.mono HB.out.size))
  clear hb4 d0 d1 c0 c1 c2 c3 c4 c5 c6 c7 fz HB HN3 HS3 hlt3 hk4 hk3 hnum
  have c3:w4.cell? ⟨b,o + 3,none⟩ = some (.slice af it.fields.length cf):=hs4.cell (j:=3) rfl
  have fz:∀ j,w4.frozen? ⟨b,j,none⟩ = false:=fun j=>hs4.frozen j
  have HN4:=hid hn4
  have HS4:=hid hs4
  clear hn4 hs4
  go_wp2_with fail
  have c3a:=alloc_cell c3 (show b < w4.heap.size by have:=HB4.out.size;omega)
  have OF:=hid (show w4.ownsRow lo 102 7 (.slice af it.fields.length cf) it.fields.length (it.fields.flatMap fieldCells) from HN4.out.f)
  go_region_law (refine step_append_lies _ rfl (.tmp 85) (.tmp 90) 93 rfl lo 102 i0 _ 7 80 Tryz.underlying93 hi hz0 hz1 hz2 rfl (by decide) _ _ _ (by simp [Act.eval]) (OF.out.alloc _) ⟨w4.heap.size,0,none⟩ 1 1 (fieldCells ⟨kk,⟨#[]⟩,⟨#[]⟩,⟨#[]⟩,ta,0,0⟩) (by simp [Act.eval]) rfl (cells_new w4 #[.int .i64 kk,.string ⟨#[]⟩,.string ⟨#[]⟩,.string ⟨#[]⟩,.int .i64 ta,.int .i64 0,.int .i64 0] _) (by simp [fieldCells,Value.oneCell']) (by omega) (by unfold maxLen;omega) (by omega) (by have:=HB4.out.size;simp;omega) _ rfl ?_;intro g cp w5 hown' hgrow hat hlt;have hs5:=after_seg HS4.out OF.out hgrow hlo;have c35:w5.cell? ⟨b,o + 3,none⟩ = some (.slice af it.fields.length cf):=hs5.cell (j:=3) rfl;have fz5:=hs5.frozen (o + 3);have HS5:=hid hs5;have HG5:=hid hgrow;have HO5:=hid hown';clear hs5 hgrow hown' hat)
  all_goals
   go_wp2_with fail
   go_ret
   have n5:=HN4.out.pushField HO5.out HG5.out
   exact ⟨⟨{ it with fields:=it.fields ++ [⟨(kk:Int),emptyB,emptyB,emptyB,ta,0,0⟩] },_,_,vna,_,vba⟩,by rw [HR.out];rfl,by rw [HR.out],HS5.out.set 3 _,n5.setItem HS5.out (o + 3) _,(after_kept (Kept.below HB4.out hsz hbs) OF.out HG5.out hlo (by have:=HB4.out.size;omega)).setCell 3 (by omega) _,fun hh=>by rw [HR.out] at hh;cases hh⟩
end Go.Proofs.YtopcgnjocklcoaaGreatDoor
namespace Go.Proofs.YtopcgnjocklcoaaGreatDoor
open Go.RowKit
set_option maxRecDepth 100000 in
set_option maxHeartbeats 1000000 in
theorem inItem_5 (w:World) (lo b o:Nat) (x:IV) (t:Tok) (hn:Nest w lo x) (hs:Seg w b 96 o (ivCells x)) (hlo:b < lo) (hsz:lo ≤ w.heap.size) (hfit:Fit x.it 5) :
  Calls Tryz.prog 45 #[.pointer (some ⟨b,o,none⟩),.int .i64 5,.agg #[.string t.text,.int .i64 t.at_,.bool t.bad]] w (InPost w lo b o x.it 5 t):=by
 obtain ⟨it,vf,vn,vna,vb,vba⟩:=x
 obtain ⟨af,cf,hvf⟩:∃ a c,vf = .slice a it.fields.length c:=own_slice hn.f
 subst hvf
 obtain ⟨an,cn,hvn⟩:∃ a c,vn = .slice a it.names.length c:=own_slice hn.n
 subst hvn
 obtain ⟨ab,cb,hvb⟩:∃ a c,vb = .slice a it.bases.length c:=own_slice hn.b
 subst hvb
 obtain ⟨tt,ta,tb⟩:=t
 have hbs:=hs.lt
 have _hlo:=hlo
 have hfl:it.fields.length ≤ 400:=hfit.2.2.1
 have HP:=hid hfit
 have HGN:=hid (fun gg (hgg:(Value.slice an it.names.length cn).ownBlock = some gg)=>(hn.n.lt gg hgg).2)
 have HGB:=hid (fun gg (hgg:(Value.slice ab it.bases.length cb).ownBlock = some gg)=>(hn.b.lt gg hgg).2)
 have HG:=hid (fun gg (hgg:(Value.slice af it.fields.length cf).ownBlock = some gg)=>(hn.f.lt gg hgg).2)
 have HN:=hid hn
 have HS:=hid hs
 clear hfit hn hs
 go_enter Tryz.func45,Tryz.ntmps45
 go_wp2_with fail
 refine (free_any _ _).mono ?_;rintro e w1 ⟨rfl,hb1⟩
 obtain ⟨hc1,hf1⟩:=bcell hb1
 go_wp2_with fail
 refine (isBase_any _ _).mono ?_;rintro e w2 ⟨rfl,hb2⟩
 have hb12:=hb1.trans (hb2.mono hb1.size)
 clear hc1 hf1 hb1 hb2
 obtain ⟨hc1,hf1⟩:=bcell hb12
 go_wp2_with fail
 refine (isNumber_any _ _).mono ?_;rintro e w3 ⟨rfl,rfl⟩
 clear hc1 hf1
 obtain ⟨hbel,hn3,hs3,d0,d1,hlt3⟩:=prep HN.out HS.out hb12
 clear hb12
 have c0:w3.cell? ⟨b,o,none⟩ = some (.string it.kind):=hs3.cell (j:=0) rfl
 have c1:w3.cell? ⟨b,o + 1,none⟩ = some (.string it.name):=hs3.cell (j:=1) rfl
 have c2:w3.cell? ⟨b,o + 2,none⟩ = some (.int .i64 it.nameAt):=hs3.cell (j:=2) rfl
 have c4:w3.cell? ⟨b,o + 4,none⟩ = some (.slice an it.names.length cn):=hs3.cell (j:=4) rfl
 have c5:w3.cell? ⟨b,o + 5,none⟩ = some vna:=hs3.cell (j:=5) rfl
 have c6:w3.cell? ⟨b,o + 6,none⟩ = some (.slice ab it.bases.length cb):=hs3.cell (j:=6) rfl
 have c7:w3.cell? ⟨b,o + 7,none⟩ = some vba:=hs3.cell (j:=7) rfl
 have c3:w3.cell? ⟨b,o + 3,none⟩ = some (.slice af it.fields.length cf):=hs3.cell (j:=3) rfl
 have fz:∀ j,w3.frozen? ⟨b,j,none⟩ = false:=fun j=>hs3.frozen j
 have HB:=hid hbel
 have HN3:=hid hn3
 have HS3:=hid hs3
 clear hbel hn3 hs3 HN HS
 cases hop:(tt.toList == [111,112,116]) with
 | true =>
  have hne:it.fields ≠ []:=HP.out.2.2.2.2.2.2.2.1 (by omega)
  obtain ⟨ll,ff,hll⟩:∃ ll ff,it.fields = ll ++ [ff]:=⟨it.fields.dropLast,it.fields.getLast hne,(List.dropLast_concat_getLast hne).symm⟩
  obtain ⟨g,cp,hgv,hgl,hgs⟩:=HN3.out.f.form (List.length_pos_iff.2 hne)
  obtain ⟨rfl,rfl⟩:af = some ⟨g,0,none⟩ ∧ cf = cp:=by simpa using hgv
  have hgb1:(g = b) = False:=by simp;omega
  have hgb2:(b = g) = False:=by simp;omega
  have hmm:it.fields.length = ll.length + 1:=by rw [hll];simp
  have ib1:(0:Int) ≤ (ll.length:Int):=by omega
  have ib2:(ll.length:Int) < (ll.length:Int) + 1:=by omega
  have hgp1:(g = w.heap.size) = False:=by have:=HG.out g rfl;simp;omega
  have hgp2:(w.heap.size = g) = False:=by have:=HG.out g rfl;simp;omega
  have HF:=hid hll
  clear hll hne hgv
  have HR:=hid (show inItemP it 5 ⟨tt,ta,tb⟩ = ({ it with fields:=ll ++ [{ ff with kind:=tt }] },6) by simp only [inItemP,isW,wOpt,wList,hop,Bool.true_or,if_true];rw [HF.out,setLast_snoc])
  have e1:w3.cell? ⟨g,ll.length * 7 + 2,none⟩ = some (.string ff.kind):=last_cell HN3.out HF.out rfl rfl 2 _ rfl
  have fg:∀ j,w3.frozen? ⟨g,j,none⟩ = false:=fun j=>HN3.out.f.frozenAt j
  go_wp2_with fail
  go_region
  all_goals
   go_wp2_with fail
   go_ret
   have x3:=HN3.out.toX HF.out hmm
   have x5:=(x3.store (ll.length * 7 + 2) (.string tt)).toNest (l:=ll) (a:={ ff with kind:=tt }) (by rw [set_last_raw];rfl) hmm
   exact ⟨⟨{ it with fields:=ll ++ [{ ff with kind:=tt }] },_,_,vna,_,vba⟩,by rw [HR.out];rfl,by rw [HR.out],HS3.out.setFar (by omega) _ _,x5.drew,((Kept.below HB.out hsz hbs).setNest hgl hlo _ _).drew,fun hh=>by rw [HR.out] at hh;cases hh⟩
 | false =>
  cases hli:(tt.toList == [108,105,115,116]) with
  | true =>
   have hne:it.fields ≠ []:=HP.out.2.2.2.2.2.2.2.1 (by omega)
   obtain ⟨ll,ff,hll⟩:∃ ll ff,it.fields = ll ++ [ff]:=⟨it.fields.dropLast,it.fields.getLast hne,(List.dropLast_concat_getLast hne).symm⟩
   obtain ⟨g,cp,hgv,hgl,hgs⟩:=HN3.out.f.form (List.length_pos_iff.2 hne)
   obtain ⟨rfl,rfl⟩:af = some ⟨g,0,none⟩ ∧ cf = cp:=by simpa using hgv
   have hgb1:(g = b) = False:=by simp;omega
   have hgb2:(b = g) = False:=by simp;omega
   have hmm:it.fields.length = ll.length + 1:=by rw [hll];simp
   have ib1:(0:Int) ≤ (ll.length:Int):=by omega
   have ib2:(ll.length:Int) < (ll.length:Int) + 1:=by omega
   have hgp1:(g = w.heap.size) = False:=by have:=HG.out g rfl;simp;omega
   have hgp2:(w.heap.size = g) = False:=by have:=HG.out g rfl;simp;omega
   have HF:=hid hll
   clear hll hne hgv
   have HR:=hid (show inItemP it 5 ⟨tt,ta,tb⟩ = ({ it with fields:=ll ++ [{ ff with kind:=tt }] },6) by simp only [inItemP,isW,wOpt,wList,hop,hli,Bool.or_true,if_true];rw [HF.out,setLast_snoc])
   have e1:w3.cell? ⟨g,ll.length * 7 + 2,none⟩ = some (.string ff.kind):=last_cell HN3.out HF.out rfl rfl 2 _ rfl
   have fg:∀ j,w3.frozen? ⟨g,j,none⟩ = false:=fun j=>HN3.out.f.frozenAt j
   go_wp2_with fail
   go_region
   all_goals
    go_wp2_with fail
    go_ret
    have x3:=HN3.out.toX HF.out hmm
    have x5:=(x3.store (ll.length * 7 + 2) (.string tt)).toNest (l:=ll) (a:={ ff with kind:=tt }) (by rw [set_last_raw];rfl) hmm
    exact ⟨⟨{ it with fields:=ll ++ [{ ff with kind:=tt }] },_,_,vna,_,vba⟩,by rw [HR.out];rfl,by rw [HR.out],HS3.out.setFar (by omega) _ _,x5.drew,((Kept.below HB.out hsz hbs).setNest hgl hlo _ _).drew,fun hh=>by rw [HR.out] at hh;cases hh⟩
  | false =>
   cases hba:baseB tt.toList with
   | false =>
    have HR:=hid (show inItemP it 5 ⟨tt,ta,tb⟩ = (it,9) by simp [inItemP,hba,isW,wOpt,wList,hop,hli])
    go_wp2_with fail
    go_ret
    exact ⟨⟨it,_,_,vna,_,vba⟩,by rw [HR.out];rfl,by rw [HR.out],HS3.out,HN3.out,Kept.below HB.out hsz hbs,fun _=>HB.out⟩
   | true =>
    have hne:it.fields ≠ []:=HP.out.2.2.2.2.2.2.2.1 (by omega)
    obtain ⟨ll,ff,hll⟩:∃ ll ff,it.fields = ll ++ [ff]:=⟨it.fields.dropLast,it.fields.getLast hne,(List.dropLast_concat_getLast hne).symm⟩
    obtain ⟨g,cp,hgv,hgl,hgs⟩:=HN3.out.f.form (List.length_pos_iff.2 hne)
    obtain ⟨rfl,rfl⟩:af = some ⟨g,0,none⟩ ∧ cf = cp:=by simpa using hgv
    have hgb1:(g = b) = False:=by simp;omega
    have hgb2:(b = g) = False:=by simp;omega
    have hmm:it.fields.length = ll.length + 1:=by rw [hll];simp
    have ib1:(0:Int) ≤ (ll.length:Int):=by omega
    have ib2:(ll.length:Int) < (ll.length:Int) + 1:=by omega
    have hgp1:(g = w.heap.size) = False:=by have:=HG.out g rfl;simp;omega
    have hgp2:(w.heap.size = g) = False:=by have:=HG.out g rfl;simp;omega
    have HF:=hid hll
    clear hll hne hgv
    have HR:=hid (show inItemP it 5 ⟨tt,ta,tb⟩ = ({ it with fields:=ll ++ [{ ff with base:=tt,baseAt:=ta }] },3) by simp only [inItemP,hba,isW,wOpt,wList,hop,hli,Bool.or_false,if_true];rw [if_neg (by decide)];rw [HF.out,setLast_snoc])
    have e1:w3.cell? ⟨g,ll.length * 7 + 3,none⟩ = some (.string ff.base):=last_cell HN3.out HF.out rfl rfl 3 _ rfl
    have e5:w3.cell? ⟨g,ll.length * 7 + 6,none⟩ = some (.int .i64 ff.baseAt):=last_cell HN3.out HF.out rfl rfl 6 _ rfl
    have fg:∀ j,w3.frozen? ⟨g,j,none⟩ = false:=fun j=>HN3.out.f.frozenAt j
    go_wp2_with fail
    go_region
    all_goals
     go_wp2_with fail
     go_region
    all_goals
     go_wp2_with fail
     go_ret
     have x3:=HN3.out.toX HF.out hmm
     have x5:=((x3.store (ll.length * 7 + 3) (.string tt)).store (ll.length * 7 + 6) (.int .i64 ta)).toNest (l:=ll) (a:={ ff with base:=tt,baseAt:=ta }) (by rw [set_last_raw,set_last_raw];rfl) hmm
     exact ⟨⟨{ it with fields:=ll ++ [{ ff with base:=tt,baseAt:=ta }] },_,_,vna,_,vba⟩,by rw [HR.out];rfl,by rw [HR.out],(HS3.out.setFar (by omega) _ _).setFar (by omega) _ _,x5.drew.drew,(((Kept.below HB.out hsz hbs).setNest hgl hlo _ _).setNest hgl hlo _ _).drew.drew,fun hh=>by rw [HR.out] at hh;cases hh⟩
end Go.Proofs.YtopcgnjocklcoaaGreatDoor

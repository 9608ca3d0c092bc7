/- inItem of package courierref: one token at station 1. -/
import Derived.Test.YtopcgnjocklcoaaGreatDoorMKept
namespace Go.Proofs.YtopcgnjocklcoaaGreatDoor
open Go.RowKit
set_option maxRecDepth 100000 in
set_option maxHeartbeats 1000000 in
theorem inItem_1 (w:World) (lo b o:Nat) (x:IV) (t:Tok) (hn:Nest w lo x) (hs:Seg w b 96 o (ivCells x)) (hlo:b < lo) (hsz:lo ≤ w.heap.size) (hfit:Fit x.it 1) :
  Calls Tryz.prog 45 #[.pointer (some ⟨b,o,none⟩),.int .i64 1,.agg #[.string t.text,.int .i64 t.at_,.bool t.bad]] w (InPost w lo b o x.it 1 t):=by
 obtain ⟨it,vf,vn,vna,vb,vba⟩:=x
 obtain ⟨af,cf,hvf⟩:∃ a c,vf = .slice a it.fields.length c:=own_slice hn.f
 subst hvf
 obtain ⟨an,cn,hvn⟩:∃ a c,vn = .slice a it.names.length c:=own_slice hn.n
 subst hvn
 obtain ⟨ab,cb,hvb⟩:∃ a c,vb = .slice a it.bases.length c:=own_slice hn.b
 subst hvb
 obtain ⟨tt,ta,tb⟩:=t
 have hbs:=hs.lt
 have _hlo:=hlo
 have hfl:it.fields.length ≤ 400:=hfit.2.2.1
 have HP:=hid hfit
 have HGN:=hid (fun gg (hgg:(Value.slice an it.names.length cn).ownBlock = some gg)=>(hn.n.lt gg hgg).2)
 have HGB:=hid (fun gg (hgg:(Value.slice ab it.bases.length cb).ownBlock = some gg)=>(hn.b.lt gg hgg).2)
 have HG:=hid (fun gg (hgg:(Value.slice af it.fields.length cf).ownBlock = some gg)=>(hn.f.lt gg hgg).2)
 have HN:=hid hn
 have HS:=hid hs
 clear hfit hn hs
 go_enter Tryz.func45,Tryz.ntmps45
 go_wp2_with fail
 refine (free_any _ _).mono ?_;rintro e w1 ⟨rfl,hb1⟩
 obtain ⟨hc1,hf1⟩:=bcell hb1
 go_wp2_with fail
 refine (isBase_any _ _).mono ?_;rintro e w2 ⟨rfl,hb2⟩
 have hb12:=hb1.trans (hb2.mono hb1.size)
 clear hc1 hf1 hb1 hb2
 obtain ⟨hc1,hf1⟩:=bcell hb12
 go_wp2_with fail
 refine (isNumber_any _ _).mono ?_;rintro e w3 ⟨rfl,rfl⟩
 clear hc1 hf1
 obtain ⟨hbel,hn3,hs3,d0,d1,hlt3⟩:=prep HN.out HS.out hb12
 clear hb12
 have c0:w3.cell? ⟨b,o,none⟩ = some (.string it.kind):=hs3.cell (j:=0) rfl
 have c1:w3.cell? ⟨b,o + 1,none⟩ = some (.string it.name):=hs3.cell (j:=1) rfl
 have c2:w3.cell? ⟨b,o + 2,none⟩ = some (.int .i64 it.nameAt):=hs3.cell (j:=2) rfl
 have c4:w3.cell? ⟨b,o + 4,none⟩ = some (.slice an it.names.length cn):=hs3.cell (j:=4) rfl
 have c5:w3.cell? ⟨b,o + 5,none⟩ = some vna:=hs3.cell (j:=5) rfl
 have c6:w3.cell? ⟨b,o + 6,none⟩ = some (.slice ab it.bases.length cb):=hs3.cell (j:=6) rfl
 have c7:w3.cell? ⟨b,o + 7,none⟩ = some vba:=hs3.cell (j:=7) rfl
 have c3:w3.cell? ⟨b,o + 3,none⟩ = some (.slice af it.fields.length cf):=hs3.cell (j:=3) rfl
 have fz:∀ j,w3.frozen? ⟨b,j,none⟩ = false:=fun j=>hs3.frozen j
 have HB:=hid hbel
 have HN3:=hid hn3
 have HS3:=hid hs3
 clear hbel hn3 hs3 HN HS
 cases hfr:freeB tt.toList with
 | false =>
  have HR:=hid (show inItemP it 1 ⟨tt,ta,tb⟩ = (it,9) by simp [inItemP,hfr])
  clear hfr
  go_wp2_with fail
  go_ret
  exact ⟨⟨it,_,_,vna,_,vba⟩,by rw [HR.out];rfl,by rw [HR.out],HS3.out,HN3.out,Kept.below HB.out hsz hbs,fun _=>HB.out⟩
 | true =>
  cases hty:typeWord it.kind.toList with
  | false =>
   have hm:(it.kind.toList == [109,101,115,115,97,103,101]) = false:=by simp [typeWord] at hty;simpa using hty.1
   have he:(it.kind.toList == [101,110,117,109]) = false:=by simp [typeWord] at hty;simpa using hty.2
   have HR:=hid (show inItemP it 1 ⟨tt,ta,tb⟩ = ({ it with name:=tt,nameAt:=ta },8) by simp [inItemP,hfr,hty])
   clear hfr hty
   go_wp2_with fail
   go_ret
   have s1:=HS3.out.set 1 (.string tt)
   have n1:=HN3.out.setItem HS3.out (o + 1) (.string tt)
   have n2:=n1.setItem s1 (o + 2) (.int .i64 ta)
   exact ⟨⟨{ it with name:=tt,nameAt:=ta },_,_,vna,_,vba⟩,by rw [HR.out];rfl,by rw [HR.out],s1.set 2 (.int .i64 ta),⟨n2.f,n2.n,n2.na,n2.b,n2.ba,n2.zf,n2.zn,n2.zna,n2.zb,n2.zba⟩,((Kept.below HB.out hsz hbs).setCell 1 (by omega) _).setCell 2 (by omega) _,fun hh=>by rw [HR.out] at hh;cases hh⟩
  | true =>
   have HR:=hid (show inItemP it 1 ⟨tt,ta,tb⟩ = ({ it with name:=tt,nameAt:=ta },2) by simp [inItemP,hfr,hty])
   have HT:=hid hty
   clear hfr hty
   by_cases hm:it.kind.toList = [109,101,115,115,97,103,101]
   all_goals
    first
    | have hmb:(it.kind.toList == [109,101,115,115,97,103,101]) = true:=by simp [hm]
    | (have hmb:(it.kind.toList == [109,101,115,115,97,103,101]) = false:=(by simp [hm]);have he:(it.kind.toList == [101,110,117,109]) = true:=by have:=HT.out;simpa [typeWord,hm] using this)
    clear hm HT
    go_wp2_with fail
    go_ret
    have s1:=HS3.out.set 1 (.string tt)
    have n1:=HN3.out.setItem HS3.out (o + 1) (.string tt)
    have n2:=n1.setItem s1 (o + 2) (.int .i64 ta)
    exact ⟨⟨{ it with name:=tt,nameAt:=ta },_,_,vna,_,vba⟩,by rw [HR.out];rfl,by rw [HR.out],s1.set 2 (.int .i64 ta),⟨n2.f,n2.n,n2.na,n2.b,n2.ba,n2.zf,n2.zn,n2.zna,n2.zb,n2.zba⟩,((Kept.below HB.out hsz hbs).setCell 1 (by omega) _).setCell 2 (by omega) _,fun hh=>by rw [HR.out] at hh;cases hh⟩
end Go.Proofs.YtopcgnjocklcoaaGreatDoor
namespace Go.Proofs.YtopcgnjocklcoaaGreatDoor
open Go.RowKit
set_option maxRecDepth 100000 in
set_option maxHeartbeats 1000000 in
theorem inItem_2 (w:World) (lo b o:Nat) (x:IV) (t:Tok) (hn:Nest w lo x) (hs:Seg w b 96 o (ivCells x)) (hlo:b < lo) (hsz:lo ≤ w.heap.size) (hfit:Fit x.it 2) :
  Calls Tryz.prog 45 #[.pointer (some ⟨b,o,none⟩),.int .i64 2,.agg #[.string t.text,.int .i64 t.at_,.bool t.bad]] w (InPost w lo b o x.it 2 t):=by
 obtain ⟨it,vf,vn,vna,vb,vba⟩:=x
 obtain ⟨af,cf,hvf⟩:∃ a c,vf = .slice a it.fields.length c:=own_slice hn.f
 subst hvf
 obtain ⟨an,cn,hvn⟩:∃ a c,vn = .slice a it.names.length c:=own_slice hn.n
 subst hvn
 obtain ⟨ab,cb,hvb⟩:∃ a c,vb = .slice a it.bases.length c:=own_slice hn.b
 subst hvb
 obtain ⟨tt,ta,tb⟩:=t
 have hbs:=hs.lt
 have _hlo:=hlo
 have hfl:it.fields.length ≤ 400:=hfit.2.2.1
 have HP:=hid hfit
 have HGN:=hid (fun gg (hgg:(Value.slice an it.names.length cn).ownBlock = some gg)=>(hn.n.lt gg hgg).2)
 have HGB:=hid (fun gg (hgg:(Value.slice ab it.bases.length cb).ownBlock = some gg)=>(hn.b.lt gg hgg).2)
 have HG:=hid (fun gg (hgg:(Value.slice af it.fields.length cf).ownBlock = some gg)=>(hn.f.lt gg hgg).2)
 have HN:=hid hn
 have HS:=hid hs
 clear hfit hn hs
 go_enter Tryz.func45,Tryz.ntmps45
 go_wp2_with fail
 refine (free_any _ _).mono ?_;rintro e w1 ⟨rfl,hb1⟩
 obtain ⟨hc1,hf1⟩:=bcell hb1
 go_wp2_with fail
 refine (isBase_any _ _).mono ?_;rintro e w2 ⟨rfl,hb2⟩
 have hb12:=hb1.trans (hb2.mono hb1.size)
 clear hc1 hf1 hb1 hb2
 obtain ⟨hc1,hf1⟩:=bcell hb12
 go_wp2_with fail
 refine (isNumber_any _ _).mono ?_;rintro e w3 ⟨rfl,rfl⟩
 clear hc1 hf1
 obtain ⟨hbel,hn3,hs3,d0,d1,hlt3⟩:=prep HN.out HS.out hb12
 clear hb12
 have c0:w3.cell? ⟨b,o,none⟩ = some (.string it.kind):=hs3.cell (j:=0) rfl
 have c1:w3.cell? ⟨b,o + 1,none⟩ = some (.string it.name):=hs3.cell (j:=1) rfl
 have c2:w3.cell? ⟨b,o + 2,none⟩ = some (.int .i64 it.nameAt):=hs3.cell (j:=2) rfl
 have c4:w3.cell? ⟨b,o + 4,none⟩ = some (.slice an it.names.length cn):=hs3.cell (j:=4) rfl
 have c5:w3.cell? ⟨b,o + 5,none⟩ = some vna:=hs3.cell (j:=5) rfl
 have c6:w3.cell? ⟨b,o + 6,none⟩ = some (.slice ab it.bases.length cb):=hs3.cell (j:=6) rfl
 have c7:w3.cell? ⟨b,o + 7,none⟩ = some vba:=hs3.cell (j:=7) rfl
 have c3:w3.cell? ⟨b,o + 3,none⟩ = some (.slice af it.fields.length cf):=hs3.cell (j:=3) rfl
 have fz:∀ j,w3.frozen? ⟨b,j,none⟩ = false:=fun j=>hs3.frozen j
 have HB:=hid hbel
 have HN3:=hid hn3
 have HS3:=hid hs3
 clear hbel hn3 hs3 HN HS
 cases hw:(tt.toList == [123]) with
 | false =>
  have HR:=hid (show inItemP it 2 ⟨tt,ta,tb⟩ = (it,9) by simp [inItemP,isW,wOpen,hw])
  go_wp2_with fail
  go_ret
  exact ⟨⟨it,_,_,vna,_,vba⟩,by rw [HR.out];rfl,by rw [HR.out],HS3.out,HN3.out,Kept.below HB.out hsz hbs,fun _=>HB.out⟩
 | true =>
  cases hm:(it.kind.toList == [109,101,115,115,97,103,101]) with
  | false =>
   have HR:=hid (show inItemP it 2 ⟨tt,ta,tb⟩ = (it,7) by simp [inItemP,isW,wOpen,wMessage,hw,hm])
   go_wp2_with fail
   go_ret
   exact ⟨⟨it,_,_,vna,_,vba⟩,by rw [HR.out];rfl,by rw [HR.out],HS3.out,HN3.out,Kept.below HB.out hsz hbs,fun _=>HB.out⟩
  | true =>
   have HR:=hid (show inItemP it 2 ⟨tt,ta,tb⟩ = (it,3) by simp [inItemP,isW,wOpen,wMessage,hw,hm])
   go_wp2_with fail
   go_ret
   exact ⟨⟨it,_,_,vna,_,vba⟩,by rw [HR.out];rfl,by rw [HR.out],HS3.out,HN3.out,Kept.below HB.out hsz hbs,fun _=>HB.out⟩
end Go.Proofs.YtopcgnjocklcoaaGreatDoor
namespace Go.Proofs.YtopcgnjocklcoaaGreatDoor
open Go.RowKit
set_option maxRecDepth 100000 in
set_option maxHeartbeats 1000000 in
theorem inItem_4 (w:World) (lo b o:Nat) (x:IV) (t:Tok) (hn:Nest w lo x) (hs:Seg w b 96 o (ivCells x)) (hlo:b < lo) (hsz:lo ≤ w.heap.size) (hfit:Fit x.it 4) :
  Calls Tryz.prog 45 #[.pointer (some ⟨b,o,none⟩),.int .i64 4,.agg #[.string t.text,.int .i64 t.at_,.bool t.bad]] w (InPost w lo b o x.it 4 t):=by
 obtain ⟨it,vf,vn,vna,vb,vba⟩:=x
 obtain ⟨af,cf,hvf⟩:∃ a c,vf = .slice a it.fields.length c:=own_slice hn.f
 subst hvf
 obtain ⟨an,cn,hvn⟩:∃ a c,vn = .slice a it.names.length c:=own_slice hn.n
 subst hvn
 obtain ⟨ab,cb,hvb⟩:∃ a c,vb = .slice a it.bases.length c:=own_slice hn.b
 subst hvb
 obtain ⟨tt,ta,tb⟩:=t
 have hbs:=hs.lt
 have _hlo:=hlo
 have hfl:it.fields.length ≤ 400:=hfit.2.2.1
 have HP:=hid hfit
 have HGN:=hid (fun gg (hgg:(Value.slice an it.names.length cn).ownBlock = some gg)=>(hn.n.lt gg hgg).2)
 have HGB:=hid (fun gg (hgg:(Value.slice ab it.bases.length cb).ownBlock = some gg)=>(hn.b.lt gg hgg).2)
 have HG:=hid (fun gg (hgg:(Value.slice af it.fields.length cf).ownBlock = some gg)=>(hn.f.lt gg hgg).2)
 have HN:=hid hn
 have HS:=hid hs
 clear hfit hn hs
 go_enter Tryz.func45,Tryz.ntmps45
 go_wp2_with fail
 refine (free_any _ _).mono ?_;rintro e w1 ⟨rfl,hb1⟩
 obtain ⟨hc1,hf1⟩:=bcell hb1
 go_wp2_with fail
 refine (isBase_any _ _).mono ?_;rintro e w2 ⟨rfl,hb2⟩
 have hb12:=hb1.trans (hb2.mono hb1.size)
 clear hc1 hf1 hb1 hb2
 obtain ⟨hc1,hf1⟩:=bcell hb12
 go_wp2_with fail
 refine (isNumber_any _ _).mono ?_;rintro e w3 ⟨rfl,rfl⟩
 clear hc1 hf1
 obtain ⟨hbel,hn3,hs3,d0,d1,hlt3⟩:=prep HN.out HS.out hb12
 clear hb12
 have c0:w3.cell? ⟨b,o,none⟩ = some (.string it.kind):=hs3.cell (j:=0) rfl
 have c1:w3.cell? ⟨b,o + 1,none⟩ = some (.string it.name):=hs3.cell (j:=1) rfl
 have c2:w3.cell? ⟨b,o + 2,none⟩ = some (.int .i64 it.nameAt):=hs3.cell (j:=2) rfl
 have c4:w3.cell? ⟨b,o + 4,none⟩ = some (.slice an it.names.length cn):=hs3.cell (j:=4) rfl
 have c5:w3.cell? ⟨b,o + 5,none⟩ = some vna:=hs3.cell (j:=5) rfl
 have c6:w3.cell? ⟨b,o + 6,none⟩ = some (.slice ab it.bases.length cb):=hs3.cell (j:=6) rfl
 have c7:w3.cell? ⟨b,o + 7,none⟩ = some vba:=hs3.cell (j:=7) rfl
 have c3:w3.cell? ⟨b,o + 3,none⟩ = some (.slice af it.fields.length cf):=hs3.cell (j:=3) rfl
 have fz:∀ j,w3.frozen? ⟨b,j,none⟩ = false:=fun j=>hs3.frozen j
 have HB:=hid hbel
 have HN3:=hid hn3
 have HS3:=hid hs3
 clear hbel hn3 hs3 HN HS
 cases hfr:freeB tt.toList with
 | false =>
  have HR:=hid (show inItemP it 4 ⟨tt,ta,tb⟩ = (it,9) by simp [inItemP,hfr])
  go_wp2_with fail
  go_ret
  exact ⟨⟨it,_,_,vna,_,vba⟩,by rw [HR.out];rfl,by rw [HR.out],HS3.out,HN3.out,Kept.below HB.out hsz hbs,fun _=>HB.out⟩
 | true =>
  have hne:it.fields ≠ []:=HP.out.2.2.2.2.2.2.2.1 (by omega)
  obtain ⟨ll,ff,hll⟩:∃ ll ff,it.fields = ll ++ [ff]:=⟨it.fields.dropLast,it.fields.getLast hne,(List.dropLast_concat_getLast hne).symm⟩
  obtain ⟨g,cp,hgv,hgl,hgs⟩:=HN3.out.f.form (List.length_pos_iff.2 hne)
  obtain ⟨rfl,rfl⟩:af = some ⟨g,0,none⟩ ∧ cf = cp:=by simpa using hgv
  have hgb1:(g = b) = False:=by simp;omega
  have hgb2:(b = g) = False:=by simp;omega
  have hmm:it.fields.length = ll.length + 1:=by rw [hll];simp
  have ib1:(0:Int) ≤ (ll.length:Int):=by omega
  have ib2:(ll.length:Int) < (ll.length:Int) + 1:=by omega
  have hgp1:(g = w.heap.size) = False:=by have:=HG.out g rfl;simp;omega
  have hgp2:(w.heap.size = g) = False:=by have:=HG.out g rfl;simp;omega
  have HF:=hid hll
  clear hll hne hgv
  have HR:=hid (show inItemP it 4 ⟨tt,ta,tb⟩ = ({ it with fields:=ll ++ [{ ff with name:=tt,nameAt:=ta }] },5) by simp only [inItemP,hfr,if_true];rw [HF.out,setLast_snoc])
  have e1:w3.cell? ⟨g,ll.length * 7 + 1,none⟩ = some (.string ff.name):=last_cell HN3.out HF.out rfl rfl 1 _ rfl
  have e5:w3.cell? ⟨g,ll.length * 7 + 5,none⟩ = some (.int .i64 ff.nameAt):=last_cell HN3.out HF.out rfl rfl 5 _ rfl
  have fg:∀ j,w3.frozen? ⟨g,j,none⟩ = false:=fun j=>HN3.out.f.frozenAt j
  go_wp2_with fail
  go_region
  all_goals
   go_wp2_with fail
   go_region
  all_goals
   go_wp2_with fail
   go_ret
   have x3:=HN3.out.toX HF.out hmm
   have x5:=((x3.store (ll.length * 7 + 1) (.string tt)).store (ll.length * 7 + 5) (.int .i64 ta)).toNest (l:=ll) (a:={ ff with name:=tt,nameAt:=ta }) (by rw [set_last_raw,set_last_raw];rfl) hmm
   exact ⟨⟨{ it with fields:=ll ++ [{ ff with name:=tt,nameAt:=ta }] },_,_,vna,_,vba⟩,by rw [HR.out];rfl,by rw [HR.out],(HS3.out.setFar (by omega) _ _).setFar (by omega) _ _,x5.drew.drew,(((Kept.below HB.out hsz hbs).setNest hgl hlo _ _).setNest hgl hlo _ _).drew.drew,fun hh=>by rw [HR.out] at hh;cases hh⟩
end Go.Proofs.YtopcgnjocklcoaaGreatDoor
namespace Go.Proofs.YtopcgnjocklcoaaGreatDoor
open Go.RowKit
set_option maxRecDepth 100000 in
set_option maxHeartbeats 1000000 in
theorem inItem_6 (w:World) (lo b o:Nat) (x:IV) (t:Tok) (hn:Nest w lo x) (hs:Seg w b 96 o (ivCells x)) (hlo:b < lo) (hsz:lo ≤ w.heap.size) (hfit:Fit x.it 6) :
  Calls Tryz.prog 45 #[.pointer (some ⟨b,o,none⟩),.int .i64 6,.agg #[.string t.text,.int .i64 t.at_,.bool t.bad]] w (InPost w lo b o x.it 6 t):=by
 obtain ⟨it,vf,vn,vna,vb,vba⟩:=x
 obtain ⟨af,cf,hvf⟩:∃ a c,vf = .slice a it.fields.length c:=own_slice hn.f
 subst hvf
 obtain ⟨an,cn,hvn⟩:∃ a c,vn = .slice a it.names.length c:=own_slice hn.n
 subst hvn
 obtain ⟨ab,cb,hvb⟩:∃ a c,vb = .slice a it.bases.length c:=own_slice hn.b
 subst hvb
 obtain ⟨tt,ta,tb⟩:=t
 have hbs:=hs.lt
 have _hlo:=hlo
 have hfl:it.fields.length ≤ 400:=hfit.2.2.1
 have HP:=hid hfit
 have HGN:=hid (fun gg (hgg:(Value.slice an it.names.length cn).ownBlock = some gg)=>(hn.n.lt gg hgg).2)
 have HGB:=hid (fun gg (hgg:(Value.slice ab it.bases.length cb).ownBlock = some gg)=>(hn.b.lt gg hgg).2)
 have HG:=hid (fun gg (hgg:(Value.slice af it.fields.length cf).ownBlock = some gg)=>(hn.f.lt gg hgg).2)
 have HN:=hid hn
 have HS:=hid hs
 clear hfit hn hs
 go_enter Tryz.func45,Tryz.ntmps45
 go_wp2_with fail
 refine (free_any _ _).mono ?_;rintro e w1 ⟨rfl,hb1⟩
 obtain ⟨hc1,hf1⟩:=bcell hb1
 go_wp2_with fail
 refine (isBase_any _ _).mono ?_;rintro e w2 ⟨rfl,hb2⟩
 have hb12:=hb1.trans (hb2.mono hb1.size)
 clear hc1 hf1 hb1 hb2
 obtain ⟨hc1,hf1⟩:=bcell hb12
 go_wp2_with fail
 refine (isNumber_any _ _).mono ?_;rintro e w3 ⟨rfl,rfl⟩
 clear hc1 hf1
 obtain ⟨hbel,hn3,hs3,d0,d1,hlt3⟩:=prep HN.out HS.out hb12
 clear hb12
 have c0:w3.cell? ⟨b,o,none⟩ = some (.string it.kind):=hs3.cell (j:=0) rfl
 have c1:w3.cell? ⟨b,o + 1,none⟩ = some (.string it.name):=hs3.cell (j:=1) rfl
 have c2:w3.cell? ⟨b,o + 2,none⟩ = some (.int .i64 it.nameAt):=hs3.cell (j:=2) rfl
 have c4:w3.cell? ⟨b,o + 4,none⟩ = some (.slice an it.names.length cn):=hs3.cell (j:=4) rfl
 have c5:w3.cell? ⟨b,o + 5,none⟩ = some vna:=hs3.cell (j:=5) rfl
 have c6:w3.cell? ⟨b,o + 6,none⟩ = some (.slice ab it.bases.length cb):=hs3.cell (j:=6) rfl
 have c7:w3.cell? ⟨b,o + 7,none⟩ = some vba:=hs3.cell (j:=7) rfl
 have c3:w3.cell? ⟨b,o + 3,none⟩ = some (.slice af it.fields.length cf):=hs3.cell (j:=3) rfl
 have fz:∀ j,w3.frozen? ⟨b,j,none⟩ = false:=fun j=>hs3.frozen j
 have HB:=hid hbel
 have HN3:=hid hn3
 have HS3:=hid hs3
 clear hbel hn3 hs3 HN HS
 cases hba:baseB tt.toList with
 | false =>
  have HR:=hid (show inItemP it 6 ⟨tt,ta,tb⟩ = (it,9) by simp [inItemP,hba])
  go_wp2_with fail
  go_ret
  exact ⟨⟨it,_,_,vna,_,vba⟩,by rw [HR.out];rfl,by rw [HR.out],HS3.out,HN3.out,Kept.below HB.out hsz hbs,fun _=>HB.out⟩
 | true =>
  have hne:it.fields ≠ []:=HP.out.2.2.2.2.2.2.2.1 (by omega)
  obtain ⟨ll,ff,hll⟩:∃ ll ff,it.fields = ll ++ [ff]:=⟨it.fields.dropLast,it.fields.getLast hne,(List.dropLast_concat_getLast hne).symm⟩
  obtain ⟨g,cp,hgv,hgl,hgs⟩:=HN3.out.f.form (List.length_pos_iff.2 hne)
  obtain ⟨rfl,rfl⟩:af = some ⟨g,0,none⟩ ∧ cf = cp:=by simpa using hgv
  have hgb1:(g = b) = False:=by simp;omega
  have hgb2:(b = g) = False:=by simp;omega
  have hmm:it.fields.length = ll.length + 1:=by rw [hll];simp
  have ib1:(0:Int) ≤ (ll.length:Int):=by omega
  have ib2:(ll.length:Int) < (ll.length:Int) + 1:=by omega
  have hgp1:(g = w.heap.size) = False:=by have:=HG.out g rfl;simp;omega
  have hgp2:(w.heap.size = g) = False:=by have:=HG.out g rfl;simp;omega
  have HF:=hid hll
  clear hll hne hgv
  have HR:=hid (show inItemP it 6 ⟨tt,ta,tb⟩ = ({ it with fields:=ll ++ [{ ff with base:=tt,baseAt:=ta }] },3) by simp only [inItemP,hba,if_true];rw [HF.out,setLast_snoc])
  have e1:w3.cell? ⟨g,ll.length * 7 + 3,none⟩ = some (.string ff.base):=last_cell HN3.out HF.out rfl rfl 3 _ rfl
  have e5:w3.cell? ⟨g,ll.length * 7 + 6,none⟩ = some (.int .i64 ff.baseAt):=last_cell HN3.out HF.out rfl rfl 6 _ rfl
  have fg:∀ j,w3.frozen? ⟨g,j,none⟩ = false:=fun j=>HN3.out.f.frozenAt j
  go_wp2_with fail
  go_region
  all_goals
   go_wp2_with fail
   go_region
  all_goals
   go_wp2_with fail
   go_ret
   have x3:=HN3.out.toX HF.out hmm
   have x5:=((x3.store (ll.length * 7 + 3) (.string tt)).store (ll.length * 7 + 6) (.int .i64 ta)).toNest (l:=ll) (a:={ ff with base:=tt,baseAt:=ta }) (by rw [set_last_raw,set_last_raw];rfl) hmm
   exact ⟨⟨{ it with fields:=ll ++ [{ ff with base:=tt,baseAt:=ta }] },_,_,vna,_,vba⟩,by rw [HR.out];rfl,by rw [HR.out],(HS3.out.setFar (by omega) _ _).setFar (by omega) _ _,x5.drew.drew,(((Kept.below HB.out hsz hbs).setNest hgl hlo _ _).setNest hgl hlo _ _).drew.drew,fun hh=>by rw [HR.out] at hh;cases hh⟩
end Go.Proofs.YtopcgnjocklcoaaGreatDoor

/- inItem of package courierref: one token at station 7. -/
import Derived.Test.YtopcgnjocklcoaaGreatDoorMKept
namespace Go.Proofs.YtopcgnjocklcoaaGreatDoor
open Go.RowKit
set_option maxRecDepth 100000 in
set_option maxHeartbeats 6000000 in
theorem inItem_7 (w:World) (lo b o:Nat) (x:IV) (t:Tok) (hn:Nest w lo x) (hs:Seg w b 96 o (ivCells x)) (hlo:b < lo) (hsz:lo ≤ w.heap.size) (hfit:Fit x.it 7) :
  Calls Tryz.prog 45 #[.pointer (some ⟨b,o,none⟩),.int .i64 7,.agg #[.string t.text,.int .i64 t.at_,.bool t.bad]] w (InPost w lo b o x.it 7 t):=by
 obtain ⟨it,vf,vn,vna,vb,vba⟩:=x
 obtain ⟨af,cf,hvf⟩:∃ a c,vf = .slice a it.fields.length c:=own_slice hn.f
 subst hvf
 obtain ⟨an,cn,hvn⟩:∃ a c,vn = .slice a it.names.length c:=own_slice hn.n
 subst hvn
 obtain ⟨ab,cb,hvb⟩:∃ a c,vb = .slice a it.bases.length c:=own_slice hn.b
 subst hvb
 obtain ⟨tt,ta,tb⟩:=t
 have hbs:=hs.lt
 have _hlo:=hlo
 have hfl:it.fields.length ≤ 400:=hfit.2.2.1
 have HP:=hid hfit
 have HGN:=hid (fun gg (hgg:(Value.slice an it.names.length cn).ownBlock = some gg)=>(hn.n.lt gg hgg).2)
 have HGB:=hid (fun gg (hgg:(Value.slice ab it.bases.length cb).ownBlock = some gg)=>(hn.b.lt gg hgg).2)
 have HG:=hid (fun gg (hgg:(Value.slice af it.fields.length cf).ownBlock = some gg)=>(hn.f.lt gg hgg).2)
 have HN:=hid hn
 have HS:=hid hs
 clear hfit hn hs
 go_enter Tryz.func45,Tryz.ntmps45
 go_wp2_with fail
 refine (free_any _ _).mono ?_;rintro e w1 ⟨rfl,hb1⟩
 obtain ⟨hc1,hf1⟩:=bcell hb1
 go_wp2_with fail
 refine (isBase_any _ _).mono ?_;rintro e w2 ⟨rfl,hb2⟩
 have hb12:=hb1.trans (hb2.mono hb1.size)
 clear hc1 hf1 hb1 hb2
 obtain ⟨hc1,hf1⟩:=bcell hb12
 go_wp2_with fail
 refine (isNumber_any _ _).mono ?_;rintro e w3 ⟨rfl,rfl⟩
 clear hc1 hf1
 obtain ⟨hbel,hn3,hs3,d0,d1,hlt3⟩:=prep HN.out HS.out hb12
 clear hb12
 have c0:w3.cell? ⟨b,o,none⟩ = some (.string it.kind):=hs3.cell (j:=0) rfl
 have c1:w3.cell? ⟨b,o + 1,none⟩ = some (.string it.name):=hs3.cell (j:=1) rfl
 have c2:w3.cell? ⟨b,o + 2,none⟩ = some (.int .i64 it.nameAt):=hs3.cell (j:=2) rfl
 have c4:w3.cell? ⟨b,o + 4,none⟩ = some (.slice an it.names.length cn):=hs3.cell (j:=4) rfl
 have c5:w3.cell? ⟨b,o + 5,none⟩ = some vna:=hs3.cell (j:=5) rfl
 have c6:w3.cell? ⟨b,o + 6,none⟩ = some (.slice ab it.bases.length cb):=hs3.cell (j:=6) rfl
 have c7:w3.cell? ⟨b,o + 7,none⟩ = some vba:=hs3.cell (j:=7) rfl
 have c3:w3.cell? ⟨b,o + 3,none⟩ = some (.slice af it.fields.length cf):=hs3.cell (j:=3) rfl
 have fz:∀ j,w3.frozen? ⟨b,j,none⟩ = false:=fun j=>hs3.frozen j
 have HB:=hid hbel
 have HN3:=hid hn3
 have HS3:=hid hs3
 clear hbel hn3 hs3 HN HS
 have HG2:=hid (fun gg (hgg:(Value.slice an it.names.length cn).ownBlock = some gg)=>HGN.out gg hgg)
 have hq1:it.names.length ≤ 400:=HP.out.2.2.2.1
 have hq2:it.namesAt.length ≤ 400:=HP.out.2.2.2.2.1
 cases hw:(tt.toList == [125]) with
 | true =>
  have hfr:freeB tt.toList = false:=by rw [eq_of_beq hw];decide
  by_cases hf:it.names = []
  ·have HR:=hid (show inItemP it 7 ⟨tt,ta,tb⟩ = (it,9) by simp [inItemP,hfr,hf])
   have hl:(it.names.length:Int) ≤ 0:=by rw [hf];decide
   clear hf
   go_wp2_with fail
   go_ret
   exact ⟨⟨it,_,_,vna,_,vba⟩,by rw [HR.out];rfl,by rw [HR.out],HS3.out,HN3.out,Kept.below HB.out hsz hbs,fun _=>HB.out⟩
  ·have HR:=hid (show inItemP it 7 ⟨tt,ta,tb⟩ = (it,0) by simp [inItemP,isW,wShut,hw,hf])
   have hl:(0 < (it.names.length:Int)):=by have:=List.length_pos_iff.2 hf;omega
   clear hf
   go_wp2_with fail
   go_ret
   exact ⟨⟨it,_,_,vna,_,vba⟩,by rw [HR.out];rfl,by rw [HR.out],HS3.out,HN3.out,Kept.below HB.out hsz hbs,fun _=>HB.out⟩
 | false =>
  cases hfr:freeB tt.toList with
  | false =>
   have HR:=hid (show inItemP it 7 ⟨tt,ta,tb⟩ = (it,9) by simp [inItemP,isW,wShut,hw,hfr])
   go_wp2_with fail
   all_goals go_ret
   all_goals exact ⟨⟨it,_,_,vna,_,vba⟩,by rw [HR.out];rfl,by rw [HR.out],HS3.out,HN3.out,Kept.below HB.out hsz hbs,fun _=>HB.out⟩
  | true =>
   have HR:=hid (show inItemP it 7 ⟨tt,ta,tb⟩ = ({ it with names:=it.names ++ [tt],namesAt:=it.namesAt ++ [ta] },7) by simp [inItemP,isW,wShut,hw,hfr])
   have hpar:(0 < (it.names.length:Int)) ∨ ((it.names.length:Int) ≤ 0):=by omega
   rcases hpar with hpar | hpar
   all_goals
    obtain ⟨iS,hiS,hS0,hS1,hS2⟩:=info_parts Tryz.infoStr
    obtain ⟨iI,hiI,hI0,hI1,hI2⟩:=info_parts Tryz.infoInt
    have HZ1:=hid (HP.out.2.2.2.2.2.2.2.2.1 rfl)
    have c1a:=alloc_cell c4 (show b < w3.heap.size by omega)
    have hbp1:(b = w.heap.size) = False:=by simp;omega
    have hbp2:(w.heap.size = b) = False:=by simp;omega
    have OF:=hid (show w3.ownsRow lo 9 1 (.slice an it.names.length cn) it.names.length (it.names.map strCell) from HN3.out.n)
    have HQ:=hid (show some w.heap.size ≠ (Value.slice an it.names.length cn).ownBlock from fun hh=>by have:=HG2.out _ hh.symm;omega)
    go_wp2_with fail
    go_region_law (refine step_append_lies _ rfl (.tmp 202) (.tmp 205) 94 rfl lo 9 iS _ 1 16 Tryz.underlying94 hiS hS0 hS1 hS2 rfl (by decide) _ _ _ (by simp [Act.eval]) (OF.out.alloc _) ⟨w3.heap.size,0,none⟩ 1 1 [strCell tt] (by simp [Act.eval]) rfl (cells_new w3 #[.string tt] _) (by simp [strCell,Value.oneCell']) (by omega) (by unfold maxLen;omega) (by omega) (by have:=HB.out.size;simp;omega) _ rfl ?_;intro g cp w5 hown' hgrow hat hlt;have hs5:=after_seg HS3.out OF.out hgrow hlo;have c15:w5.cell? ⟨b,o + 4,none⟩ = some (.slice an it.names.length cn):=hs5.cell (j:=4) rfl;have c25:w5.cell? ⟨b,o + 5,none⟩ = some vna:=hs5.cell (j:=5) rfl;have c05:w5.cell? ⟨b,o,none⟩ = some (.string it.kind):=hs5.cell (j:=0) rfl;have d15:=after_cell hgrow d1 hlt3 HQ.out;have fz5:∀ j,w5.frozen? ⟨b,j,none⟩ = false:=fun j=>hs5.frozen j;have HS5:=hid hs5;have HG5:=hid hgrow;have HO5:=hid hown';clear hs5 hgrow hown' hat)
    all_goals
     have n5:=HN3.out.pushName HZ1.out.1 HO5.out HG5.out
     have n6:=n5.setItem HS5.out (o + 4) (.slice (some ⟨g,0,none⟩) (it.names.length + 1) cp)
     have HN6:=hid n6
     have s6:=hid (HS5.out.set 4 (.slice (some ⟨g,0,none⟩) (it.names.length + 1) cp))
     have HK6:=hid ((after_kept (Kept.below (o:=o) HB.out hsz hbs) OF.out HG5.out hlo (by have:=HB.out.size;omega)).setCell 4 (by omega) (.slice (some ⟨g,0,none⟩) (it.names.length + 1) cp))
     have hsz5:=after_lt HG5.out
     clear n5 n6 c0 c1 c2 c3 c4 c5 c6 c7 c1a d0 d1 fz
     have c2a:=alloc_cell (w4:=w5.setCell ⟨b,o + 4,none⟩ (.slice (some ⟨g,0,none⟩) (it.names.length + 1) cp)) (a:=⟨b,o + 5,none⟩) (v:=vna) (s6.out.cell (j:=5) rfl) (show b < _ by simp [World.setCell];omega)
     have ON:=hid (show (w5.setCell ⟨b,o + 4,none⟩ (.slice (some ⟨g,0,none⟩) (it.names.length + 1) cp)).ownsRow lo 3 1 vna it.namesAt.length (it.namesAt.map natCell) from HN6.out.na)
     go_wp2_with fail
     go_region_law (refine step_append_lies _ rfl (.tmp 213) (.tmp 216) 24 rfl lo 3 iI _ 1 8 Tryz.underlying24 hiI hI0 hI1 hI2 rfl (by decide) _ _ _ (by simp [Act.eval]) (ON.out.alloc _) ⟨w5.heap.size,0,none⟩ 1 1 [natCell ta] (by simp [Act.eval]) rfl (cells_new_at (w5.setCell ⟨b,o + 4,none⟩ (.slice (some ⟨g,0,none⟩) (it.names.length + 1) cp)) w5.heap.size (by simp [World.setCell]) #[.int .i64 ta] _) (by simp [natCell,Value.oneCell']) (by omega) (by unfold maxLen;omega) (by omega) (by have:=HB.out.size;simp [World.setCell];omega) _ rfl ?_;intro g2 cp2 w7 hown' hgrow hat2 hlt2;have hs7:=after_seg s6.out ON.out hgrow hlo;have c17:w7.cell? ⟨b,o + 4,none⟩ = some (.slice (some ⟨g,0,none⟩) (it.names.length + 1) cp):=hs7.cell (j:=4) rfl;have c27:w7.cell? ⟨b,o + 5,none⟩ = some vna:=hs7.cell (j:=5) rfl;have c07:w7.cell? ⟨b,o,none⟩ = some (.string it.kind):=hs7.cell (j:=0) rfl;have fz7:∀ j,w7.frozen? ⟨b,j,none⟩ = false:=fun j=>hs7.frozen j;have HS7:=hid hs7;have HG7:=hid hgrow;have HO7:=hid hown';clear hs7 hgrow hown' hat2)
    all_goals
     go_wp2_with fail
     go_ret
     have n7:=HN6.out.pushNameAt HZ1.out.2 HO7.out HG7.out
     have n8:=n7.setItem HS7.out (o + 5) (.slice (some ⟨g2,0,none⟩) (it.namesAt.length + 1) cp2)
     exact ⟨_,by rw [HR.out];rfl,by rw [HR.out],HS7.out.set 5 _,n8,(after_kept HK6.out ON.out HG7.out hlo (by have:=HB.out.size;simp [World.setCell];omega)).setCell 5 (by omega) _,fun hh=>by rw [HR.out] at hh;cases hh⟩
end Go.Proofs.YtopcgnjocklcoaaGreatDoor

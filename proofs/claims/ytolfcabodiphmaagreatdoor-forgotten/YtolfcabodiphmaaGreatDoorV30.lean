/- Package ends: Out. -/
import Derived.Test.YtolfcabodiphmaaGreatDoorV21
import Derived.Test.YtolfcabodiphmaaGreatDoorV29
import Derived.Test.YtolfcabodiphmaaGreatDoorV26
import Derived.Test.YtolfcabodiphmaaGreatDoorV24
import Derived.Test.YtolfcabodiphmaaGreatDoorV04
set_option linter.unusedSimpArgs false
set_option linter.unusedVariables false
set_option maxHeartbeats 8000000
set_option maxRecDepth 100000
namespace Go.Proofs.YtolfcabodiphmaaGreatDoor
open Go.Proofs.Tryz
open Go.RowKit Go.Conc
def Dk(w:World)(q:Nat):Nat:=match w.heap[q]? with | some (.chan _ buf _ _ _ _)=>buf.size | _=>0
theorem vK(p:aP):1≤(bJ p).length:=by simp[bJ,qI]
theorem FH{w:World}{q:Nat}{L:List aP}(h:o8 w q L):Dk w q=L.length:=by
 obtain⟨s,r,h⟩:=h
 unfold Dk
 rw[h]
 simp
def ajd(w0:World)(b:Nat)(T:TypeId)(i0 i1 i2 i3:Value)(last:Int)(had up:Bool)(tl:List Value)(L:List aP)(q m:Nat)(a:Act)(w:World):Prop:=∃ (v u4 u5 u6 u7 u8 u9 u10 u11 u12 u13 u14 u15 u16 u17 u18 u19 u20 u21 u22 u23 u24 u25 u26 u27 u28 u29 u30:Value) (vs:List Value) (D R:List aP),a = { tmps:=#[.pointer (some ⟨b,0,none⟩),undef,.slice none 0 0,v,u4,u5,u6,u7,u8,u9,u10,u11,u12,u13,u14,u15,u16,u17,u18,u19,u20,u21,u22,u23,u24,u25,u26,u27,u28,u29,u30],defers:=[] } ∧ D++R=L∧iq w b T i0 i1 i2 i3 last had up tl R q m∧Ec w w0.heap.size v vs (D.map (fun p=>bT fU (bJ p)))∧aG (fun k=>k=q∨k=m) w0 w
theorem OZ(w:World)(b:Nat)(T:TypeId)(i0 i1 i2 i3:Value)(last:Int)(had up:Bool)(tl:List Value)(L:List aP)(q m:Nat)(h:iq w b T i0 i1 i2 i3 last had up tl L q m)(hL:∀ p∈L,lS p∧(bJ p).length≤120)(h60:L.length≤60):
  Calls Tryz.prog 39 #[.pointer (some ⟨b,0,none⟩)] w (fun e w'=>∃ v vs,e=.returned v∧iq w' b T i0 i1 i2 i3 last had up tl [] q m∧Ec w' w.heap.size v vs (L.map (fun p=>bT fU (bJ p)))∧aG (fun k=>k=q∨k=m) w w'):=by
 refine pG func39 rfl ?_
 simp only[ntmps39,List.size_toArray,List.length_cons,List.length_nil,Nat.reduceAdd,Nat.reduceSub,Array.replicate_succ,
   Array.replicate_zero,List.push_toArray,List.append_toArray,List.nil_append,List.cons_append]
 have H:=hid h
 clear h
 refine gI (fun K hK=>?_)
 go_wp2_with fail
 refine gI (fun K hK=>?_)
 go_wp2_with fail
 refine Eu ?_
 refine TF (ajd w b T i0 i1 i2 i3 last had up tl L q m) (fun _ w=>Dk w q) ⟨_,_,_,_,_,_,_,_,_,_,_,_,_,_,_,_,_,_,_,_,_,_,_,_,_,_,_,_,[],[],L,rfl,rfl,H.out,Ec.nil _ _,aG.refl _ _⟩ ?_
 rintro a w1 ⟨v,u4,u5,u6,u7,u8,u9,u10,u11,u12,u13,u14,u15,u16,u17,u18,u19,u20,u21,u22,u23,u24,u25,u26,u27,u28,u29,u30,vs,D,R,rfl,hDR,hE,Y8,hC⟩
 have d7:w1.cell? ⟨b,7,none⟩=some (.chan (some q)):=hE.blk.cell 7
 have HE:=hid hE
 obtain⟨Fs,HFs⟩:∃ Fs,Hid (D.map (fun p=>bT fU (bJ p))=Fs):=⟨_,hid rfl⟩
 rw[HFs.out] at Y8
 have hFl:Fs.length≤60:=by rw[← HFs.out,List.length_map];have:=congrArg List.length hDR;rw[List.length_append] at this;omega
 obtain⟨va,vc,rfl⟩:=ay Y8.own
 have HL:=hid Y8
 have HDR:=hid hDR
 clear hE Y8 hDR
 refine Eu ?_
 refine gI (fun K hK=>?_)
 go_wp2_with fail
 refine zZ ?_
 refine uT ?_
 obtain⟨s,r,hq⟩:=HE.out.uH
 cases R with
 | nil=>
  refine TK (c:=q) (cap:=60) (s:=s) (r:=r) (tm:=false) rfl rfl (by simp[go_sem,execOp,rcase,Act.eval];rfl) (by simpa using hq) ?_
  refine qQ (v:=.int .i64 (-1)) (w':=w1) rfl rfl (by simp[go_sem,goInt]) ?_
  refine qQ (v:=.bool false) (w':=w1) rfl rfl (by simp[go_sem]) ?_
  refine Aa ?_
  refine oK ?_
  go_wp2_with fail
  go_ret
  have hD:D=L:=by have:=HDR.out;simpa using this
  exact⟨_,vs,rfl,HE.out,by rw[← hD,HFs.out];exact HL.out,hC⟩
 | cons p R=>
  have hp:=hL p (by rw[← HDR.out];simp)
  have hv0:(((p::R).map pv).toArray).getD 0 undef=.agg #[.int .u8 p.kind,.int .u64 p.token,.int .u64 p.session,.int .u64 p.number,.int .u64 p.position,.string p.data]:=by simp[pv,pc]
  have hx0:(((p::R).map pv).toArray).extract 1 (((p::R).map pv).toArray).size=(R.map pv).toArray:=by simp[List.take_of_length_le]
  refine TJ (c:=q) (cap:=60) (buf:=((p::R).map pv).toArray) (s:=s) (r:=r) (tm:=false) rfl rfl (by simp[go_sem,execOp,rcase,Act.eval];rfl) hq (by simp) ?_
  rw[hv0,hx0]
  have hc2:aG (fun k=>k=q) w1 (w1.setChan q 60 (R.map pv).toArray false s (r+1) false):=(aG.refl _ _).setChan _ _ _ _ _ _ _ (fun _=>rfl)
  have hQ2:o8 (w1.setChan q 60 (R.map pv).toArray false s (r+1) false) q R:=⟨s,r+1,heap_setChan _ _ _ _ _ _ _ _ HE.out.uH.lt⟩
  have hW2:=HE.out.AL.dB hc2 (fun e=>HE.out.uH.mP HE.out.AL e.symm)
  have hB2:=HE.out.blk.dB hc2 (HE.out.blk.Gf HE.out.uH)
  obtain⟨w2,hw2⟩:∃ w2,w1.setChan q 60 (R.map pv).toArray false s (r+1) false=w2:=⟨_,rfl⟩
  rw[hw2] at hc2 hQ2 hW2 hB2
  rw[hw2]
  refine qQ (v:=.int .i64 0) (w':=w2) rfl rfl (by simp[go_sem,goInt]) ?_
  refine qQ (v:=.bool true) (w':=w2) rfl rfl (by simp[go_sem]) ?_
  refine Aa ?_
  refine oK ?_
  have HB2:=hid hB2
  have Jw:=hid hQ2
  have HW2:=hid hW2
  have HPp:=hid hp
  clear hB2 hQ2 hW2 hv0 hx0 hq hp hw2
  have hb3:Below w2.heap.size w2 (w2.alloc (.cells #[.int .u8 p.kind,.int .u64 p.token,.int .u64 p.session,.int .u64 p.number,.int .u64 p.position,.string p.data] 124)):=(Below.refl _ _).alloc (Nat.le_refl _) _
  have Y9:aK (w2.alloc (.cells #[.int .u8 p.kind,.int .u64 p.token,.int .u64 p.session,.int .u64 p.number,.int .u64 p.position,.string p.data] 124)) w2.heap.size 124 [.int .u8 p.kind,.int .u64 p.token,.int .u64 p.session,.int .u64 p.number,.int .u64 p.position,.string p.data]:=heap_alloc_new w2 _
  have hW3:=HW2.out.dB (F:=fun _=>False) (aG.of_below hb3) id
  have hQ3:=Jw.out.dB (F:=fun _=>False) (aG.of_below hb3) id
  have hB3:=HB2.out.below hb3
  go_wp2_with fail
  obtain⟨w3,hw3⟩:∃ w3,w2.alloc (.cells #[.int .u8 p.kind,.int .u64 p.token,.int .u64 p.session,.int .u64 p.number,.int .u64 p.position,.string p.data] 124)=w3:=⟨_,rfl⟩
  rw[hw3] at hb3 Y9 hW3 hQ3 hB3
  rw[hw3]
  have d8:w3.cell? ⟨b,8,none⟩=some (.map (some m)):=hB3.cell 8
  have e0:w3.cell? ⟨w2.heap.size,0,none⟩=some (.int .u8 p.kind):=Y9.cell 0
  have e1:w3.cell? ⟨w2.heap.size,1,none⟩=some (.int .u64 p.token):=Y9.cell 1
  have e2:w3.cell? ⟨w2.heap.size,2,none⟩=some (.int .u64 p.session):=Y9.cell 2
  have e3:w3.cell? ⟨w2.heap.size,3,none⟩=some (.int .u64 p.number):=Y9.cell 3
  have e4:w3.cell? ⟨w2.heap.size,4,none⟩=some (.int .u64 p.position):=Y9.cell 4
  have e5:w3.cell? ⟨w2.heap.size,5,none⟩=some (.string p.data):=Y9.cell 5
  have hdel:∀ ty,(Builtin.delete_ #[89,124] ty #[.map (some m),.agg #[.int .u8 p.kind,.int .u64 p.token,.int .u64 p.session,.int .u64 p.number,.int .u64 p.position,.string p.data]]).run Tryz.prog w3.drew=.ok (.tuple #[]) (nN w3.drew m):=fun ty=>Lm (w:=w3.drew) hW3 ty
  have HX3:=hid Y9
  have HW3:=hid hW3
  have NY:=hid hQ3
  have HB3:=hid hB3
  have hml:=HW2.out.lt
  have hz3:=hb3.size
  clear Y9 hW3 hQ3 hB3 hw3
  go_region
  all_goals
   obtain⟨w4,hw4⟩:∃ w4,nN w3.drew m=w4:=⟨_,rfl⟩
   rw[hw4]
   have hc4:aG (fun k=>k=m) w3 w4:=by rw[← hw4];exact((aG.refl _ w3).drew).same (IQ _ m rfl)
   have HW4:Hid (Waits w4 m R):=by rw[← hw4];exact DY (w:=w3.drew) HW3.out
   have HQ4:=hid (NY.out.dB hc4 (NY.out.mP HW3.out))
   have HB4:=hid (HB3.out.dB hc4 (HB3.out.mP HW3.out))
   have hX4:=HX3.out.dB hc4 (by show ¬ w2.heap.size=m;omega)
   have f0:w4.cell? ⟨w2.heap.size,0,none⟩=some (.int .u8 p.kind):=hX4.cell 0
   have f1:w4.cell? ⟨w2.heap.size,1,none⟩=some (.int .u64 p.token):=hX4.cell 1
   have f2:w4.cell? ⟨w2.heap.size,2,none⟩=some (.int .u64 p.session):=hX4.cell 2
   have f3:w4.cell? ⟨w2.heap.size,3,none⟩=some (.int .u64 p.number):=hX4.cell 3
   have f4:w4.cell? ⟨w2.heap.size,4,none⟩=some (.int .u64 p.position):=hX4.cell 4
   have f5:w4.cell? ⟨w2.heap.size,5,none⟩=some (.string p.data):=hX4.cell 5
   have hz4:=hc4.size
   clear hw4 hdel hX4 d8 e0 e1 e2 e3 e4 e5
   go_wp2_with fail
   refine(write_any w4 p HPp.out.1).mono ?_;rintro e w5 ⟨da,dc,rfl,hD5,hb5⟩
   have HD5:=hid hD5
   clear hD5 f0 f1 f2 f3 f4 f5
   go_wp2_with fail
   refine(wrap_any w5 _ (bJ p) HD5.out.rd (by unfold maxLen;have:=HPp.out.2;omega)).mono ?_;rintro e w6 ⟨hb6,hm6⟩
   have hok:okB (bJ p).length=true:=pK.2 ⟨vK p,HPp.out.2⟩
   rw[hok] at hm6
   simp only[cond_true] at hm6
   obtain⟨fa,fc,rfl,hF6⟩:=hm6
   obtain⟨FP,HFP⟩:∃ FP,Hid (bT fU (bJ p)=FP):=⟨_,hid rfl⟩
   rw[HFP.out] at hF6
   rw[HFP.out]
   have HF6:=hid hF6
   have Uu:=hb5.size
   have hz6:=hb6.size
   have hz2:=hc2.size
   have hzC:=hC.size
   have hq0:=H.out.uH.lt
   have hm0:=H.out.AL.lt
   have aoy:=H.out.blk.lt
   have c16:aG (fun k=>k=q∨k=m) w1 w6:=(hc2.mono (fun i _ e=>Or.inl e)).same ((aG.of_below hb3).same ((hc4.mono (fun i _ e=>Or.inr e)).same ((aG.of_below hb5).same (aG.of_below hb6))))
   have HS:Hid (∀ k,w.heap.size≤k→k<w1.heap.size→w6.heap[k]? = w1.heap[k]?):=fun k h1 h2=>c16.block k h2 (fun e=>by rcases e with rfl | rfl<;>omega)
   have HL6:=hid (HL.out.same HS.out)
   clear hF6 hok
   go_wp2_with (at_builtin;refine eG _ rfl (.tmp 27) (.tmp 29) 61 64 _ 1 24 rfl underlying61 Tryz.infoBytes rfl (by decide) _ Fs.length vs w.heap.size rfl (HL6.out.own.alloc _) _ 1 1 [.slice fa FP.length fc] rfl rfl (U1 _ _ _) QJ (Fs.length+1) rfl _ rfl (by unfold maxLen;omega) (by omega) (by simp;omega) ?_)
   intro a7 c7 w7 ho7 hg7
   have hal:Below w6.heap.size w6 (w6.alloc (.cells #[.slice fa FP.length fc] 64)):=(Below.refl _ _).alloc (Nat.le_refl _) _
   have HL7:=hid (HL.out.push (own_base (HF6.out.same hal) (by omega)) (fun k h1 h2=>(hal.block k (by omega)).trans (HS.out k h1 h2)) hzC ho7 hg7)
   have c47:aG (fun k=>w.heap.size≤k) w4 w7:=(aG.of_below hb5).same ((aG.of_below hb6).same ((aG.of_below hal).same (aG.grew hg7 (fun k hk=>(HL6.out.own.lt k hk).1))))
   have HE7:=hid (show iq w7 b T i0 i1 i2 i3 last had up tl R q m from⟨HB4.out.dB c47 (by omega),HQ4.out.dB c47 (by omega),HW4.out.dB c47 (by omega)⟩)
   have hC7:aG (fun k=>k=q∨k=m) w w7:=(hC.same ((hc2.mono (fun i _ e=>Or.inl e)).same ((aG.of_below hb3).same (hc4.mono (fun i _ e=>Or.inr e))))).trans c47 (fun i hi hh=>by omega)
   have HM:=hid (show Dk w7 q<Dk w1 q by rw[FH HE7.out.uH,FH HE.out.uH];simp)
   clear ho7 hg7 hal c47
   go_wp2_with fail
   (try simp only[Exit.inBlock,Exit.then])
   refine⟨⟨_,_,_,_,_,_,_,_,_,_,_,_,_,_,_,_,_,_,_,_,_,_,_,_,_,_,_,_,vs++[.slice fa FP.length fc],D++[p],R,rfl,by rw[← HDR.out];simp,HE7.out,?_,hC7⟩,HM.out⟩
   rw[List.map_append,HFs.out,List.map_singleton,HFP.out]
   exact HL7.out
theorem cOut{lo:Nat}{w:World}{g:CG}(h:Cli lo w g)(hL:∀ p∈g.L,lS p∧(bJ p).length≤120)(h60:g.L.length≤60):
  Calls Tryz.prog 39 #[.pointer (some ⟨g.b,0,none⟩)] w (fun e w'=>∃ v vs,e=.returned v∧Ec w' w.heap.size v vs (g.L.map (fun p=>bT fU (bJ p)))∧gG lo w g { g.st with L:=[] } w' { g with L:=[] }):=by
 refine(OZ w g.b _ _ _ _ _ g.last g.had g.up g.tl g.L g.q g.m h.ends hL h60).mono ?_
 rintro e w' ⟨v,vs,rfl,h1,h2,h3⟩
 exact⟨v,vs,rfl,h2,h.IZ h3 h1.uH h1.AL⟩
theorem ajk{lo:Nat}{w:World}{g:SG}(h:Srv lo w g)(hL:∀ p∈g.L,lS p∧(bJ p).length≤120)(h60:g.L.length≤60):
  Calls Tryz.prog 39 #[.pointer (some ⟨g.b,0,none⟩)] w (fun e w'=>∃ v vs,e=.returned v∧Ec w' w.heap.size v vs (g.L.map (fun p=>bT fU (bJ p)))∧dV lo w g { g.st with L:=[] } w' { g with L:=[] }):=by
 refine(OZ w g.b _ _ _ _ _ g.last g.had g.up g.tl g.L g.q g.m h.ends hL h60).mono ?_
 rintro e w' ⟨v,vs,rfl,h1,h2,h3⟩
 exact⟨v,vs,rfl,h2,h.IZ h3 h1.uH h1.AL⟩
theorem Wh{lo:Nat}{w:World}{g:SG}{q:SP}(h:Srv lo w g)(p:aP)(hp:lS p)(hd9:p.data.size≤900)(conn:Int)(hup:g.st.isUp conn=true)(a:Option Addr)(c:Nat)(F:List UInt8)(hr:Rd w (.slice a F.length c) F)(hl:F.length≤2000000)(hcap:F.length≤c)(hn:kT fU F=some (bJ p))
  (hT:∀ w2,Below w.heap.size w w2→Calls Tryz.prog 89 #[.pointer (some ⟨g.b,0,none⟩),.agg #[.int .u8 p.kind,.int .u64 p.token,.int .u64 p.session,.int .u64 p.number,.int .u64 p.position,.string p.data]] w2 (fun e w'=>e=.returned (.tuple #[])∧∃ g',dV lo w2 g q w' g')) :
  Calls Tryz.prog 62 #[.pointer (some ⟨g.b,0,none⟩),.int .i64 conn,.slice a F.length c] w (fun e w'=>e=.returned (.int .i64 0)∧∃ g',dV lo w g q w' g'):=by
 have H:=hid h
 have HR:=hid hr
 have HN:=hid hn
 have HP:=hid hp
 have pz:=hid hT
 have HU:=hid (show (g.up&&decide (conn=g.last))=true from hup)
 clear h hr hn hp hup hT
 go_enter func62,ntmps62
 go_wp2_with fail
 refine(IW _ g.b _ _ _ _ _ g.last g.had g.up g.q g.m g.tl H.out.blk conn).mono ?_;rintro e w1 ⟨rfl,rfl⟩
 rw[HU.out]
 go_wp2_with fail
 refine(KA w1 p HP.out hd9 a c F HR.out hl hcap HN.out).mono ?_;rintro e w2 ⟨rfl,hb2⟩
 have hb3:Below w2.heap.size w2 (w2.alloc (.cells #[.int .u8 p.kind,.int .u64 p.token,.int .u64 p.session,.int .u64 p.number,.int .u64 p.position,.string p.data] 124)):=(Below.refl _ _).alloc (Nat.le_refl _) _
 have hB3:aK (w2.alloc (.cells #[.int .u8 p.kind,.int .u64 p.token,.int .u64 p.session,.int .u64 p.number,.int .u64 p.position,.string p.data] 124)) w2.heap.size 124 [.int .u8 p.kind,.int .u64 p.token,.int .u64 p.session,.int .u64 p.number,.int .u64 p.position,.string p.data]:=heap_alloc_new w2 _
 obtain⟨w3,hw3⟩:∃ w3,w2.alloc (.cells #[.int .u8 p.kind,.int .u64 p.token,.int .u64 p.session,.int .u64 p.number,.int .u64 p.position,.string p.data] 124)=w3:=⟨_,rfl⟩
 rw[hw3] at hb3 hB3
 have r0:w3.cell? ⟨w2.heap.size,0,none⟩=some (.int .u8 p.kind):=hB3.cell 0
 have r1:w3.cell? ⟨w2.heap.size,1,none⟩=some (.int .u64 p.token):=hB3.cell 1
 have r2:w3.cell? ⟨w2.heap.size,2,none⟩=some (.int .u64 p.session):=hB3.cell 2
 have r3:w3.cell? ⟨w2.heap.size,3,none⟩=some (.int .u64 p.number):=hB3.cell 3
 have r4:w3.cell? ⟨w2.heap.size,4,none⟩=some (.int .u64 p.position):=hB3.cell 4
 have r5:w3.cell? ⟨w2.heap.size,5,none⟩=some (.string p.data):=hB3.cell 5
 have eF:=hb2.trans (hb3.mono hb2.size)
 have VJ:=hid eF
 clear hb2 hb3 hB3 eF
 go_wp2_with fail
 refine(pz.out w3 VJ.out).mono ?_;rintro e w4 ⟨rfl,g4,h4⟩
 have HT:=hid (h4.before VJ.out)
 clear h4
 go_wp2_with fail
 go_ret
 exact⟨rfl,g4,HT.out⟩
theorem SP.KC(W:Nat)(s:SP):(s.speak W).waits=s.waits:=by
 unfold SP.speak
 split<;>rfl
theorem SP.jD(W:Nat)(s:SP)(p:aP):(s.aW W p).1.waits=s.waits:=by
 unfold SP.aW
 split
 ·split
  ·split
   ·rfl
   ·exact SP.KC W _
  ·rfl
 ·rfl
theorem SP.Em(W:Nat)(s:SP)(p:aP):(s.request W p).1.waits=s.waits:=by
 unfold SP.request
 dsimp only
 split
 ·split
  ·split
   ·exact SP.jD W s p
   ·exact SP.jD W s p
  ·exact SP.jD W s p
 ·exact SP.jD W s p
structure Wi(X:List aO)(ask:SP.Ask)(p:aP):Prop where
 ex:∃ (nm dat:ByteArray) (x:aO) (bs an:ByteArray) (i:Nat) (t:ByteArray),p.data=nm++⟨#[32]⟩++dat∧(∀ c∈nm.data.toList,c≠32)∧p.data.size≤1000∧1<p.data.size∧nm.size+1≤p.data.size∧dat.size≤1000∧jH X 3 nm.toList (i:Int)∧X[i]? = some x∧(∃ v,x.it.base=[.string bs,v])∧(∃ v,x.it.answer=[.string an,v])∧dU X bs dat.toList=some t∧ask p.data.toList=some (x.it.name.text,t,an)
theorem afz{lo:Nat}{w:World}{g:SG}(h:Srv lo w g)(p:aP)(hS:SSp g.st)(hW:g.W≤1000)(ht:∀ s,g.aT=some s→s.token=p.token):
  Calls Tryz.prog 121 #[.pointer (some ⟨g.b,0,none⟩),.agg #[.int .u8 p.kind,.int .u64 p.token,.int .u64 p.session,.int .u64 p.number,.int .u64 p.position,.string p.data]] w (fun e w'=>e=.returned (.tuple #[])∧∃ g',dV lo w g (g.st.here g.W p) w' g'):=by
 cases ho:g.st.oI p with
 | false=>exact Y1 h p ht ho
 | true=>exact V5 h p hS hW ht ho
theorem SG.yX{g:SG}{s:gy}(h:g.fresh.aT=some s):∃ s0,g.aT=some s0∧s = { s0 with silence:=0 }:=by
 unfold SG.fresh at h
 simp only[Option.map_eq_some_iff] at h
 obtain⟨s0,h1,h2⟩:=h
 exact⟨s0,h1,h2.symm⟩
theorem SG.ny(g:SG):g.fresh.st=(match g.st.aT with | some o=>{ g.st with aT:=some { o with silence:=0 } } | none=>g.st):=by
 rcases Option.eq_none_or_eq_some g.aT with hs | ⟨s,hs⟩
 ·rw[SG.kP hs,show g.st.aT=none by unfold SG.st;rw[hs];rfl]
 ·rw[SG.qw hs,SG.oAt hs]
  rfl
theorem SG.uf{g:SG}(h:SSp g.st):SSp g.fresh.st:=by
 rw[SG.ny]
 cases ho:g.st.aT with
 | none=>exact h
 | some o=>exact h.mono rfl (fun o' ho'=>⟨o,ho,by cases ho';exact⟨rfl,rfl⟩⟩)
theorem acd{lo:Nat}{w:World}{g:SG}(h:Srv lo w g)(ask:SP.Ask)(hS:SSp g.st)(hW:g.W≤1000)(tk ss nb ps:Nat)(dt:ByteArray)(ht:∀ s,g.aT=some s→s.token=tk):
  Calls Tryz.prog 89 #[.pointer (some ⟨g.b,0,none⟩),.agg #[.int .u8 1,.int .u64 tk,.int .u64 ss,.int .u64 nb,.int .u64 ps,.string dt]] w (fun e w'=>e=.returned (.tuple #[])∧∃ g',dV lo w g (g.st.take ask g.W ⟨1,tk,ss,nb,ps,dt⟩) w' g'):=by
 have e:g.st.take ask g.W ⟨1,tk,ss,nb,ps,dt⟩=g.fresh.st.here g.W ⟨1,tk,ss,nb,ps,dt⟩:=by rw[SG.ny];rfl
 rw[e]
 have hC:∀ w2,dV lo w g g.fresh.st w2 g.fresh→Calls Tryz.prog 121 #[.pointer (some ⟨g.b,0,none⟩),.agg #[.int .u8 1,.int .u64 tk,.int .u64 ss,.int .u64 nb,.int .u64 ps,.string dt]] w2 (fun e w'=>e=.returned (.tuple #[])∧∃ g',dV lo w2 g.fresh (g.fresh.st.here g.W ⟨1,tk,ss,nb,ps,dt⟩) w' g'):=fun w2 h2=>
  afz (g:=g.fresh) h2.srv ⟨1,tk,ss,nb,ps,dt⟩ (SG.uf hS) hW (fun s hs=>by obtain⟨s0,h0,rfl⟩:=SG.yX hs;exact ht s0 h0)
 rcases Option.eq_none_or_eq_some g.aT with hs | ⟨s,hs⟩
 ·exact Y3 h hs tk ss nb ps dt hC
 ·exact Y4 h hs tk ss nb ps dt (ht s hs) hC
def PtrRow(w:World)(lo:Nat)(v:Value)(l:List Nat):Prop:=w.ownsRow lo 164 1 v l.length (l.map aJ)
theorem afA(w:World)(la:Option Addr)(lc cb:Nat):
  Calls Tryz.prog 210 #[.slice la 0 lc,.func (Fn.func 175) #[] #[.pointer (some ⟨cb,0,none⟩)]] w (fun e w'=>e=.returned (.int .i64 (-1))∧w'=w):=by
 go_enter func210,ntmps210
 go_wp2_with fail
 go_loopg [5,8] 0 (fun gk t i wr=>i=.int .i64 0∧wr=w)
 case atStart=>exact⟨rfl,rfl⟩
 case round=>
  obtain⟨rfl,rfl⟩:=hrel
  go_wp2_with fail
  go_ret
  exact⟨rfl,rfl⟩
theorem afB(w:World)(lo:Nat)(v:Value)(l:List Nat)(cb:Nat)(f:Nat→Bool)(h:PtrRow w lo v l)(h0:l=[]):
  Calls Tryz.prog 174 #[v,.func (Fn.func 175) #[] #[.pointer (some ⟨cb,0,none⟩)]] w (fun e w'=>∃ v',e=.returned v'∧PtrRow w' lo v' (l.filter (fun p=>!f p))∧aG (fun k=>v.ownBlock=some k) w w'∧v'.ownBlock=v.ownBlock):=by
 subst h0
 obtain⟨la,lc,rfl⟩:=ay h
 have HH:=hid h
 clear h
 go_enter func174,ntmps174
 go_wp2_with fail
 refine(afA w la lc cb).mono ?_;rintro e w1 ⟨rfl,hw1⟩;rw[hw1];clear hw1 w1
 go_wp2_with fail
 go_ret
 exact⟨_,rfl,HH.out,aG.refl _ _,rfl⟩
theorem ace(w:World)(p:aP)(cb n:Nat)(hcb:cb<w.heap.size)(hn:w.cell? ⟨cb,3,none⟩=some (.int .u64 n)):
  Calls Tryz.prog 177 #[.agg #[.int .u8 p.kind,.int .u64 p.token,.int .u64 p.session,.int .u64 p.number,.int .u64 p.position,.string p.data],.pointer (some ⟨cb,0,none⟩)] w (fun e w'=>e=.returned (.bool (decide (p.number=n)))∧Below w.heap.size w w'):=by
 have hbw0:Below w.heap.size w (w.alloc (.cells #[.int .u8 p.kind,.int .u64 p.token,.int .u64 p.session,.int .u64 p.number,.int .u64 p.position,.string p.data] 124)):=(Below.refl _ _).alloc (Nat.le_refl _) _
 have au:aK (w.alloc (.cells #[.int .u8 p.kind,.int .u64 p.token,.int .u64 p.session,.int .u64 p.number,.int .u64 p.position,.string p.data] 124)) w.heap.size 124 [.int .u8 p.kind,.int .u64 p.token,.int .u64 p.session,.int .u64 p.number,.int .u64 p.position,.string p.data]:=heap_alloc_new w _
 obtain⟨w0,dw⟩:∃ w0,w.alloc (.cells #[.int .u8 p.kind,.int .u64 p.token,.int .u64 p.session,.int .u64 p.number,.int .u64 p.position,.string p.data] 124)=w0:=⟨_,rfl⟩
 rw[dw] at hbw0 au
 have e0:w0.cell? ⟨w.heap.size,0,none⟩=some (.int .u8 p.kind):=au.cell 0
 have e1:w0.cell? ⟨w.heap.size,1,none⟩=some (.int .u64 p.token):=au.cell 1
 have e2:w0.cell? ⟨w.heap.size,2,none⟩=some (.int .u64 p.session):=au.cell 2
 have e3:w0.cell? ⟨w.heap.size,3,none⟩=some (.int .u64 p.number):=au.cell 3
 have e4:w0.cell? ⟨w.heap.size,4,none⟩=some (.int .u64 p.position):=au.cell 4
 have e5:w0.cell? ⟨w.heap.size,5,none⟩=some (.string p.data):=au.cell 5
 have hn0:w0.cell? ⟨cb,3,none⟩=some (.int .u64 n):=(hbw0.cell (p:=⟨cb,3,none⟩) hcb).trans hn
 clear au hn
 by_cases h:p.number=n
 ·have b1:((p.number:Int)==(n:Int))=true:=by simp[h]
  rw[decide_eq_true h]
  clear h
  go_enter func177,ntmps177
  go_wp2_with fail
  go_ret
  exact⟨rfl,hbw0⟩
 ·have b1:((p.number:Int)==(n:Int))=false:=by simp;omega
  rw[decide_eq_false h]
  clear h
  go_enter func177,ntmps177
  go_wp2_with fail
  go_ret
  exact⟨rfl,hbw0⟩
def Za(l:List xJ)(n b:Nat):Bool:=l.any (fun m=>decide (m.blk=b)&&decide (m.f.number=n))
theorem FI{α β:Type}{f:α → β}:∀ {l:List α},(l.map f).Nodup→∀ {x y:α},x∈l→y∈l→f x=f y→x=y
 | [],_,_,_,hx,_,_=>by cases hx
 | a::l,hn,x,y,hx,hy,e=>by
  have hn':f a∉l.map f∧(l.map f).Nodup:=List.nodup_cons.1 hn
  rcases List.mem_cons.1 hx with rfl | hx
  ·rcases List.mem_cons.1 hy with rfl | hy
   ·rfl
   ·exact absurd (List.mem_map.2 ⟨y,hy,e.symm⟩) hn'.1
  ·rcases List.mem_cons.1 hy with hy | hy
   ·exact absurd (List.mem_map.2 ⟨x,hx,e.trans (by rw[hy])⟩) hn'.1
   ·exact FI hn'.2 hx hy e
theorem Zb:∀ {l:List xJ} {n:Nat} {m:xJ},(l.map (fun m=>m.blk)).Nodup→m∈l→Za l n m.blk=decide (m.f.number=n):=fun {l n m} hn hm=>by
 unfold Za
 by_cases h:m.f.number=n
 ·rw[decide_eq_true h,List.any_eq_true]
  exact⟨m,hm,by simp[h]⟩
 ·rw[decide_eq_false h,List.any_eq_false]
  intro x hx
  by_cases hb:x.blk=m.blk
  ·have:x=m:=FI hn hx hm hb
   subst this
   simp[h]
  ·simp[hb]
theorem KD{l:List xJ}{n:Nat}(hn:(l.map (fun m=>m.blk)).Nodup):(l.map (fun m=>m.blk)).filter (fun b=>!Za l n b)=(l.filter (fun m=>!decide (m.f.number=n))).map (fun m=>m.blk):=by
 rw[List.filter_map]
 congr 1
 apply List.filter_congr
 intro m hm
 simp only[Function.comp,Zb hn hm]
theorem O1:∀ (l:List xJ) (sb:Nat) (oG:List Nat),(l.flatMap (xJ.res sb oG)).map Prod.fst=l.map (fun m=>m.blk)
 | [],_,_=>rfl
 | m::l,sb,oG=>by
  simp only[List.flatMap_cons,List.map_append,List.map_cons,O1 l sb oG]
  rfl
theorem Srv.Zc{lo:Nat}{w:World}{g:SG}{s:gy}(h:Srv lo w g)(hs:g.aT=some s):(s.feeds.map (fun m=>m.blk)).Nodup:=by
 have p1:(s.res g.oG).Perm (s.feeds.flatMap (xJ.res s.blk g.oG)++(s.dX++(s.sD++s.oU))):=aY (fun p=>by unfold gy.res;simp only[aH];omega)
 have:=((h.oH hs).left p1).nodup
 rw[O1] at this
 exact this
theorem Srv.acf{lo:Nat}{w w':World}{g:SG}{s:gy}{Ny:Value}{pr:xJ→Bool}(h:Srv lo w g)(hs:g.aT=some s)(hc:aG (fun k=>k=s.blk∨s.fv.ownBlock=some k) w w')(hB:aK w' s.blk 132 (fJ { s with fv:=Ny,feeds:=s.feeds.filter pr }))(hA:w'.ownsRow lo 164 1 Ny (s.feeds.filter pr).length ((s.feeds.filter pr).map (fun f=>aJ f.blk)))(hnew:∀ k,Ny.ownBlock=some k→s.fv.ownBlock=some k∨w.heap.size≤k):
  dV lo w g { g.st with aT:=some { s.o with feeds:=(s.feeds.filter pr).map (fun f=>f.f) } } w' { g with aT:=some { s with fv:=Ny,feeds:=s.feeds.filter pr } }:=by
 have hS:=h.oH hs
 have hok:=h.yT hs
 have hlo:lo≤s.blk:=(hS.lt (Key.app.2 (Or.inl (Key.one.2 rfl)))).1
 obtain⟨hA1,hA2⟩:=jR hA (by decide)
 have hh:Has lo w' (({ s with fv:=Ny,feeds:=s.feeds.filter pr }:gy).dX++({ s with fv:=Ny,feeds:=s.feeds.filter pr }:gy).sD):=aA.2 ⟨dH hlo hB (by decide),hA1,fun a ha c hc' e=>by
  rw[List.mem_singleton.1 ha] at e
  have hk:=(bQ (e:=164) hA2).1 ⟨c,hc',rfl⟩
  have e':s.blk=c.1:=e
  rw[← e'] at hk
  exact hB.dF hA (by decide) hk⟩
 have hg:Grow w (s.dX++s.sD) w' (({ s with fv:=Ny,feeds:=s.feeds.filter pr }:gy).dX++({ s with fv:=Ny,feeds:=s.feeds.filter pr }:gy).sD):=⟨hc.mono (fun i _ hi=>by
  rcases hi with rfl | hi
  ·exact Key.app.2 (Or.inl (Key.one.2 rfl))
  ·exact Key.app.2 (Or.inr ((bQ hok.rf).2 hi))),fun k hk=>by
  rcases Key.app.1 hk with e | e
  ·exact Or.inl (Key.app.2 (Or.inl (Key.one.2 (show k=s.blk from Key.one.1 e))))
  ·rcases hnew k ((bQ hA2).1 e) with e | e
   ·exact Or.inl (Key.app.2 (Or.inr ((bQ hok.rf).2 e)))
   ·exact Or.inr e⟩
 have p1:(s.res g.oG).Perm ((s.dX++s.sD)++(s.feeds.flatMap (xJ.res s.blk g.oG)++s.oU)):=aY (fun p=>by unfold gy.res;simp only[aH];omega)
 have pf:(s.feeds.flatMap (xJ.res s.blk g.oG)).Perm ((s.feeds.filter pr).flatMap (xJ.res s.blk g.oG)++(s.feeds.filter (fun m=>!pr m)).flatMap (xJ.res s.blk g.oG)):=by
  rw[← List.flatMap_append]
  exact(List.Perm.flatMap_right _ (List.filter_append_perm pr s.feeds)).symm
 have hX:=(hS.perm p1).swap hh hg
 have hG:=hg.swap (R:=s.feeds.flatMap (xJ.res s.blk g.oG)++s.oU)
 generalize hX':({ s with fv:=Ny,feeds:=s.feeds.filter pr }:gy).dX++({ s with fv:=Ny,feeds:=s.feeds.filter pr }:gy).sD=X' at hX hG
 have p3:(X'++(s.feeds.flatMap (xJ.res s.blk g.oG)++s.oU)).Perm ((X'++((s.feeds.filter pr).flatMap (xJ.res s.blk g.oG)++s.oU))++(s.feeds.filter (fun m=>!pr m)).flatMap (xJ.res s.blk g.oG)):=by
  refine(List.Perm.append_left X' (List.Perm.append_right s.oU pf)).trans ?_
  exact aY (fun p=>by simp only[aH];omega)
 have p2:(X'++((s.feeds.filter pr).flatMap (xJ.res s.blk g.oG)++s.oU)).Perm (({ s with fv:=Ny,feeds:=s.feeds.filter pr }:gy).res g.oG):=by
  rw[← hX']
  exact aY (fun p=>by
   show _=cnt p (({ s with fv:=Ny,feeds:=s.feeds.filter pr }:gy).dX++(({ s with fv:=Ny,feeds:=s.feeds.filter pr }:gy).sD++((s.feeds.filter pr).flatMap (xJ.res s.blk g.oG)++s.oU)))
   simp only[aH];omega)
 have hG2:=hG.perm p1.symm p3
 exact h.lK (s':={ s with fv:=Ny,feeds:=s.feeds.filter pr }) hs ((hX.left p3).perm p2) ⟨hG2.c,fun k hk=>hG2.k k (Key.app.2 (Or.inl ((Key.perm p2).2 hk)))⟩ rfl rfl ⟨hA2,hok.rn⟩
theorem Wj{lo:Nat}{w:World}{g:SG}(h:Srv lo w g)(p:aP)(hS:SSp g.st)(hW:g.W≤1000)(ht:∀ s,g.aT=some s→s.token=p.token)(ho:g.st.oI p=true)(hln:∀ o,(g.st.aW g.W p).1.aT=some o→o.feeds.length≤0∧o.answers.length≤1000):
  Calls Tryz.prog 125 #[.pointer (some ⟨g.b,0,none⟩),.agg #[.int .u8 p.kind,.int .u64 p.token,.int .u64 p.session,.int .u64 p.number,.int .u64 p.position,.string p.data]] w (fun e w'=>e=.returned (.tuple #[])∧∃ g',dV lo w g (g.st.done g.W p) w' g'):=by
 have hbw0:Below w.heap.size w (w.alloc (.cells #[.int .u8 p.kind,.int .u64 p.token,.int .u64 p.session,.int .u64 p.number,.int .u64 p.position,.string p.data] 124)):=(Below.refl _ _).alloc (Nat.le_refl _) _
 have au:aK (w.alloc (.cells #[.int .u8 p.kind,.int .u64 p.token,.int .u64 p.session,.int .u64 p.number,.int .u64 p.position,.string p.data] 124)) w.heap.size 124 [.int .u8 p.kind,.int .u64 p.token,.int .u64 p.session,.int .u64 p.number,.int .u64 p.position,.string p.data]:=heap_alloc_new w _
 obtain⟨w0,dw⟩:∃ w0,w.alloc (.cells #[.int .u8 p.kind,.int .u64 p.token,.int .u64 p.session,.int .u64 p.number,.int .u64 p.position,.string p.data] 124)=w0:=⟨_,rfl⟩
 rw[dw] at hbw0 au
 have e0:w0.cell? ⟨w.heap.size,0,none⟩=some (.int .u8 p.kind):=au.cell 0
 have e1:w0.cell? ⟨w.heap.size,1,none⟩=some (.int .u64 p.token):=au.cell 1
 have e2:w0.cell? ⟨w.heap.size,2,none⟩=some (.int .u64 p.session):=au.cell 2
 have e3:w0.cell? ⟨w.heap.size,3,none⟩=some (.int .u64 p.number):=au.cell 3
 have e4:w0.cell? ⟨w.heap.size,4,none⟩=some (.int .u64 p.position):=au.cell 4
 have e5:w0.cell? ⟨w.heap.size,5,none⟩=some (.string p.data):=au.cell 5
 obtain⟨s,hs,hn⟩:=SG.Dh ho
 have ht:=ht s hs
 have H0:=hid (h.below hbw0)
 have Hb0:=hid hbw0
 have Hs:=hid hs
 have Ht:=hid ht
 have Hn:=hid hn
 have HS:=hid hS
 have HO:=hid ho
 have HB0:=hid au
 have Aj:=hid (show ¬ Key g.res w.heap.size from h.lM)
 have Yc:=hid hln
 clear h hS ht hs hn ho hln hbw0 au
 go_enter func125,ntmps125
 go_wp2_with fail
 refine(Df (s:=s) H0.out p HS.out hW Hs.out Ht.out Hn.out).mono ?_;rintro e w1 ⟨rfl,g1,h1,hk1⟩;have H1:=hid (h1.before Hb0.out);have HB1:=hid (h1.blk HB0.out Aj.out).1;have afC:=hid (h1.blk HB0.out Aj.out).2;have HK1:=hid hk1;clear h1 hk1
 obtain⟨s1,hs1,hb1⟩:=SG.OV HK1.out
 have Np:=hid hs1
 have hgb:g1.b=g.b:=H1.out.b
 have VP:=hid (H1.out.srv.jm hs1)
 rw[← hb1]
 have BP:=hid (show (g.st.aW g.W p).1.aT=some s1.o from(congrArg SP.aT H1.out.st).symm.trans (SG.oAt hs1))
 clear hs1 hb1
 obtain⟨hfl,hal⟩:=Yc.out _ BP.out
 have hfe:s1.o.feeds.length=s1.feeds.length:=by unfold gy.o;simp
 have HF0:=hid (show s1.feeds=[] from List.length_eq_zero_iff.1 (by omega))
 clear hfe
 have hal:s1.answers.length≤1000:=hal
 have HE:=hid (show g.st.done g.W p = { g1.st with aT:=some { s1.o with feeds:=s1.o.feeds.filter (fun f=>!decide (f.number=p.number)),answers:=s1.answers.filter (fun a=>!decide (a.number=p.number)) } } by
  unfold SP.done
  simp only[SP.jM,HO.out,if_true,BP.out]
  rw[H1.out.st]
  rfl)
 have hG1:=H1.out.srv
 have hnd:=hG1.Zc Np.out
 obtain⟨fa,fc,hfv⟩:=(hG1.yT Np.out).rf.slice
 have x5:w1.cell? ⟨s1.blk,5,none⟩=some (.slice fa s1.feeds.length fc):=(show w1.cell? ⟨s1.blk,5,none⟩=some s1.fv from VP.out.cell 5).trans (by rw[hfv])
 have hown:w1.ownsRow lo 164 1 s1.fv s1.feeds.length (s1.feeds.map (fun f=>aJ f.blk)):=(hG1.oH Np.out).own (hG1.yT Np.out).rf (fun p hp=>by unfold gy.res;simp only[List.mem_append];exact Or.inr (Or.inl hp))
 have hlm:(s1.feeds.map (fun m=>m.blk)).length=s1.feeds.length:=by simp
 have HP:=hid (show PtrRow w1 lo (.slice fa s1.feeds.length fc) (s1.feeds.map (fun m=>m.blk)) by
  unfold PtrRow
  rw[← hfv,hlm,List.map_map]
  exact hown)
 have hkb:∀ k,(Value.slice fa s1.feeds.length fc).ownBlock=some k→s1.fv.ownBlock=some k:=fun k hk=>by rw[hfv];exact hk
 have afD:∀ k,s1.fv.ownBlock=some k→k≠w.heap.size∧k≠s1.blk∧∀ m∈s1.feeds,k≠m.blk:=fun k hk=>by
  have hkK:Key s1.sD k:=(bQ (hG1.yT Np.out).rf).2 hk
  refine⟨fun e=>afC.out ?_,fun e=>?_,fun m hm e=>?_⟩
  ·rw[← e]
   exact(Key.perm (SG.AY Np.out)).2 (Key.app.2 (Or.inl (Key.app.2 (Or.inr (Key.app.2 (Or.inl hkK))))))
  ·have hd:=(aA.1 (show Has lo w1 (s1.dX++(s1.sD++(s1.feeds.flatMap (xJ.res s1.blk g1.oG)++s1.oU))) from hG1.oH Np.out)).2.2
   obtain⟨q,hq,e2⟩:=hkK
   exact hd _ (List.mem_singleton.2 rfl) q (List.mem_append_left _ hq) (show s1.blk=q.1 by rw[e2];exact e.symm)
  ·have hd:=(aA.1 (aA.1 (show Has lo w1 (s1.dX++(s1.sD++(s1.feeds.flatMap (xJ.res s1.blk g1.oG)++s1.oU))) from hG1.oH Np.out)).2.1).2.2
   obtain⟨q,hq,e2⟩:=hkK
   exact hd q hq _ (List.mem_append_left _ (List.mem_flatMap.2 ⟨m,hm,List.mem_singleton.2 rfl⟩)) (show q.1=m.blk by rw[e2];exact e)
 have HND:=hid hnd
 have X9:=hid hfv
 have HKB:=hid hkb
 have HNF:=hid afD
 have QI:=hid hG1
 obtain⟨aa,ac,hav⟩:=(hG1.yT Np.out).rn.slice
 have XP:=hid hav
 clear hnd hfv hown hkb afD hG1 hgb hav
 go_wp2_with fail
 refine(afB w1 lo _ (s1.feeds.map (fun m=>m.blk)) w.heap.size (Za s1.feeds p.number) HP.out (by rw[HF0.out];rfl)).mono ?_;rintro e w2 ⟨v',rfl,hrow,hc2,hob⟩
 unfold PtrRow at hrow
 rw[KD HND.out,List.length_map,List.map_map] at hrow
 obtain⟨a',c',rfl⟩:=ay hrow
 have hc2':aG (fun k=>s1.fv.ownBlock=some k) w1 w2:=hc2.mono (fun k _ hk=>HKB.out k hk)
 have hS2:=VP.out.dB hc2' (fun e=>(HNF.out _ e).2.1 rfl)
 have hP2:=HB1.out.dB hc2' (fun e=>(HNF.out _ e).1 rfl)
 have y5:w2.cell? ⟨s1.blk,5,none⟩=some (.slice fa s1.feeds.length fc):=(show w2.cell? ⟨s1.blk,5,none⟩=some s1.fv from hS2.cell 5).trans (by rw[X9.out])
 have z5:=hS2.frozen 5
 have hB3:aK (w2.setCell ⟨s1.blk,5,none⟩ (.slice a' (s1.feeds.filter (fun m=>!decide (m.f.number=p.number))).length c')) s1.blk 132 (fJ { s1 with fv:=.slice a' (s1.feeds.filter (fun m=>!decide (m.f.number=p.number))).length c',feeds:=(s1.feeds.filter (fun m=>!decide (m.f.number=p.number))) }):=hS2.set 5 _
 have hc3:aG (fun k=>k=s1.blk) w2 (w2.setCell ⟨s1.blk,5,none⟩ (.slice a' (s1.feeds.filter (fun m=>!decide (m.f.number=p.number))).length c')):=(aG.refl (fun k=>k=s1.blk) w2).setCell ⟨s1.blk,5,none⟩ _ (fun _=>rfl)
 have afE:=hS2.dF hrow (by decide)
 have kF:=QI.out.acf (Ny:=.slice a' (s1.feeds.filter (fun m=>!decide (m.f.number=p.number))).length c') (pr:=fun m=>!decide (m.f.number=p.number)) Np.out ((hc2'.mono (G:=fun k=>k=s1.blk∨s1.fv.ownBlock=some k) (fun k _ hk=>Or.inr hk)).same (hc3.mono (fun k _ hk=>Or.inl hk))) hB3 (hc3.own hrow (fun k hk e=>afE (e ▸ hk))) (fun k hk=>Or.inl (HKB.out k (hob ▸ hk)))
 obtain⟨hP3,acg⟩:=kF.blk HB1.out afC.out
 obtain⟨w3,hw3⟩:∃ w3,w2.setCell ⟨s1.blk,5,none⟩ (.slice a' (s1.feeds.filter (fun m=>!decide (m.f.number=p.number))).length c')=w3:=⟨_,rfl⟩
 rw[hw3] at kF hP3 hB3
 generalize Wn:({ s1 with fv:=.slice a' (s1.feeds.filter (fun m=>!decide (m.f.number=p.number))).length c',feeds:=(s1.feeds.filter (fun m=>!decide (m.f.number=p.number))) }:gy)=s3 at kF hB3 acg
 have afF:s3.blk=s1.blk:=by rw[← Wn]
 have RZ:s3.answers=s1.answers:=by rw[← Wn]
 have Wp:s3.av=.slice aa s3.answers.length ac:=by rw[RZ,← Wn];exact XP.out
 have x6:w3.cell? ⟨s1.blk,6,none⟩=some (.slice aa s1.answers.length ac):=(show w3.cell? ⟨s1.blk,6,none⟩=some s3.av from hB3.cell 6).trans (by rw[Wp,RZ])
 have hown3:=kF.srv.Ns (s:=s3) rfl
 have iR:=hid (show eu w3 lo (.slice aa s1.answers.length ac) s1.answers by
  unfold eu
  rw[Wp,RZ] at hown3
  exact hown3)
 have ach:∀ k,(Value.slice aa s1.answers.length ac).ownBlock=some k→s3.av.ownBlock=some k:=fun k hk=>by rw[Wp,RZ];exact hk
 have afG:s3.av.ownBlock≠some w.heap.size:=fun e=>acg ((Key.perm (SG.AY (g:={ g1 with aT:=some s3 }) (s:=s3) rfl)).2 (Key.app.2 (Or.inl (Key.app.2 (Or.inr (Key.app.2 (Or.inr (Key.app.2 (Or.inr ((bQ (kF.srv.yT (s:=s3) rfl).rn).2 e))))))))))
 have hlt3:=hP3.lt
 have ajn:=hid (show ∀ wr,aG (fun k=>(Value.slice aa s1.answers.length ac).ownBlock=some k) w3 wr→∀ q∈s1.answers,Calls Tryz.prog 177 #[.agg #[.int .u8 q.kind,.int .u64 q.token,.int .u64 q.session,.int .u64 q.number,.int .u64 q.position,.string q.data],.pointer (some ⟨w.heap.size,0,none⟩)] wr (fun e w'=>e=.returned (.bool (decide (q.number=p.number)))∧Below wr.heap.size wr w') from fun wr hwr q _=>by
  have hPp:=hP3.dB hwr (fun e=>afG (ach _ e))
  exact ace wr q w.heap.size p.number hPp.lt (hPp.cell 3))
 have HT3:=hid kF
 have Ea:=hid (show aK w3 s3.blk 132 (fJ s3) from kF.srv.jm (s:=s3) rfl)
 have HKB3:=hid ach
 have ajo:=hid Wp
 have HA3:=hid RZ
 have HB3:=hid afF
 have ajp:=hid Wn
 have ajq:=hid hown3
 clear hrow hc2 hob hc2' hS2 hP2 hB3 hc3 afE kF hP3 acg Wn afF RZ Wp hown3 ach afG hlt3
 go_wp2_with fail
 refine(XY w3 lo _ s1.answers w.heap.size _ iR.out hal ajn.out).mono ?_;rintro e w4 ⟨v4,rfl,hrow4,hc4,afH⟩
 unfold eu at hrow4
 obtain⟨a4,c4,rfl⟩:=ay hrow4
 have aci:aG (fun k=>s3.av.ownBlock=some k) w3 w4:=hc4.mono (fun k _ hk=>HKB3.out k hk)
 have afI:s3.av.ownBlock≠some s3.blk:=Ea.out.dF ajq.out (by decide)
 have hS4:=Ea.out.dB aci afI
 have y6:w4.cell? ⟨s1.blk,6,none⟩=some (.slice aa s1.answers.length ac):=by
  have:=hS4.cell 6
  rw[HB3.out] at this
  exact this.trans (by show some s3.av=_;rw[ajo.out,HA3.out])
 have z6:w4.frozen? ⟨s1.blk,6,none⟩=false:=by
  have:=hS4.frozen 6
  rw[HB3.out] at this
  exact this
 have Ac:aK (w4.setCell ⟨s3.blk,6,none⟩ (.slice a4 (s1.answers.filter (fun a=>!decide (a.number=p.number))).length c4)) s3.blk 132 (fJ { s3 with av:=.slice a4 (s1.answers.filter (fun a=>!decide (a.number=p.number))).length c4,answers:=(s1.answers.filter (fun a=>!decide (a.number=p.number))) }):=hS4.set 6 _
 have hc5:aG (fun k=>k=s3.blk) w4 (w4.setCell ⟨s3.blk,6,none⟩ (.slice a4 (s1.answers.filter (fun a=>!decide (a.number=p.number))).length c4)):=(aG.refl (fun k=>k=s3.blk) w4).setCell ⟨s3.blk,6,none⟩ _ (fun _=>rfl)
 have afJ:=hS4.dF hrow4 (by decide)
 have Xy:=HT3.out.srv.aaJ (s:=s3) (Nu:=.slice a4 (s1.answers.filter (fun a=>!decide (a.number=p.number))).length c4) (l':=(s1.answers.filter (fun a=>!decide (a.number=p.number)))) rfl ((aci.mono (G:=fun k=>k=s3.blk∨s3.av.ownBlock=some k) (fun k _ hk=>Or.inr hk)).same (hc5.mono (fun k _ hk=>Or.inl hk))) Ac (hc5.own hrow4 (fun k hk e=>afJ (e ▸ hk))) (fun k hk=>Or.inl (HKB3.out k (afH ▸ hk)))
 rw[HB3.out] at Xy
 have OY:=hid Xy
 clear hrow4 hc4 afH aci afI hS4 Ac hc5 afJ Xy
 go_wp2_with fail
 go_end0
 have hEq:({ ({ g1 with aT:=some s3 }:SG).st with aT:=some { s3.o with answers:=(s1.answers.filter (fun a=>!decide (a.number=p.number))) } }:SP) = { g1.st with aT:=some { s1.o with feeds:=s1.o.feeds.filter (fun f=>!decide (f.number=p.number)),answers:=(s1.answers.filter (fun a=>!decide (a.number=p.number))) } }:=by
  rw[← ajp.out]
  simp only[SG.st,gy.o,List.filter_map,Function.comp_def]
 exact⟨rfl,_,by rw[HE.out,← hEq];exact(H1.out.same.trans HT3.out.same).trans OY.out⟩
end Go.Proofs.YtolfcabodiphmaaGreatDoor

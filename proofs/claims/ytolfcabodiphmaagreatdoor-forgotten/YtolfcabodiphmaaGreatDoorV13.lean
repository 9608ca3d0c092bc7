/- strings.Builder's Write; the decoder's integer, choice. -/
import Derived.Test.YtolfcabodiphmaaGreatDoorV10
import Derived.Test.YtolfcabodiphmaaGreatDoorV11
import Derived.Test.YtolfcabodiphmaaGreatDoorV12
set_option linter.unusedSimpArgs false
set_option linter.unusedVariables false
set_option maxHeartbeats 4000000
set_option maxRecDepth 100000
namespace Go.Proofs.YtolfcabodiphmaaGreatDoor
open Go.Proofs.Tryz
open Go.RowKit
theorem ML(w:World)(db lo lo2:Nat)(lv v v2:Value)(L:List UInt8)(c1 c2 c3:UInt8)(h:yH w db lo lv v L)(h2:gZ w lo2 v2 [c1,c2,c3])(hn2:v2.ownBlock≠some db)(hl:L.length≤1000000000)(hlo:lo≤w.heap.size):
  Calls Tryz.prog 255 #[.pointer (some ⟨db,1,none⟩),v2] w fun e w'=>e=.returned (.tuple #[.int .i64 3,.nilIface])∧zA w db lo lv (L++[c1,c2,c3]) w':=by
 unfold zA
 obtain⟨la,lc,hlv⟩:∃ a c,v=.slice a L.length c:=ay h.o
 obtain⟨pa,pc,hpv⟩:∃ a c,v2=.slice a 3 c:=ay h2
 obtain⟨p,hp,hd⟩:=h.d
 have HO:=hid h.o
 have HD:=hid hd
 subst hlv hpv
 have H2:=hid h2
 have Yl:=hid hn2
 obtain⟨T,HT⟩:∃ T,Hid ([c1,c2,c3]=T):=⟨_,hid rfl⟩
 rw[HT.out] at H2
 rw[HT.out]
 have hTl:T.length=3:=by rw[← HT.out];rfl
 have Xt:=hid hTl
 clear h hd h2 hn2 hTl
 go_enter func255,ntmps255
 go_wp2_with fail
 refine(oC w db lv _ p hp HD.out).mono ?_;rintro e w1 ⟨rfl,hd1,hb1⟩
 have HD1:=hid hd1
 have BP:=hid (HO.out.but (show Seg _ _ _ _ _ from HD.out.seg) (by decide) hb1)
 have H21:=hid (aC H2.out (fun g hg=>hb1.block g (H2.out.lt g hg).2 (fun e=>Yl.out (by rw[← e];exact hg))):gZ w1 lo2 (.slice pa 3 pc) T)
 have k2:=hd1.seg.cell (j:=2) rfl
 have f2:=hd1.seg.frozen 2
 simp only[Nat.zero_add] at k2
 have hz1:=hb1.size
 clear hd1
 go_wp2_with (at_builtin;refine fB _ rfl _ _ rfl _ L lo rfl BP.out _ T _ rfl H21.out (by have:=Xt.out;omega) (by omega) ?_)
 intro a5 c5 w5 hb5 hg5
 have HG5:=hid hg5
 have E5:=hid hb5
 have hd5:Dc w5 db lv (some ⟨db,1,none⟩) (.slice la L.length lc):=HD1.out.same (hg5.g.block db HD1.out.lt (fun e=>dM BP.out HD1.out.seg (by decide) e.symm rfl))
 have c5':=hd5.seg.cell (j:=2) rfl
 have f5:=hd5.seg.frozen 2
 simp only[Nat.zero_add] at c5'
 have HD5:=hid hd5
 clear hb5 hg5 hd5 k2 f2
 go_wp2_with fail
 go_ret2
 refine⟨rfl,.slice a5 (L.length+T.length) c5,⟨⟨_,Or.inr rfl,HD5.out.abv _⟩,?_⟩,((DF.jy _ hb1).trans (DF.GY BP.out HG5.out.g)).trans ((DF.jy _ ((But.refl _ _).setCell _ _)))⟩
 exact aC E5.out (fun g hg=>Below.heap_setCell _ _ _ _ (dM E5.out HD5.out.seg (by decide) hg))
def jl(spec:rV)(w:World)(db lo:Nat)(lv:Value)(L:List UInt8)(K:Nat)(e:Ending)(w':World):Prop :=
 ∃ (ok:Bool) (v':Value) (S:List UInt8),e=.returned (.bool ok)∧yH w' db lo lv v' (L++S)∧DF db lo w w'∧S.length≤K∧(match ok with | true=>spec=some S | false=>spec=none)
theorem and1(m:Nat)(h:m<18446744073709551616):bits BinOp.and IntKind.u64 (m:Int) 1=((m % 2:Nat):Int):=by
 have:=bits_and_u64_nat m 1 h (by decide)
 rw[show ((1:Nat):Int)=1 from rfl] at this
 rw[this,Nat.and_one_is_mod]
theorem Yy(n:Nat)(h:n<9223372036854775808):bits BinOp.xor IntKind.i64 (-1) (n:Int) = -(n:Int)-1:=by
 have h2:(BitVec.ofInt 64 (n:Int)).toNat=n:=by
  rw[BitVec.ofInt_natCast,BitVec.toNat_ofNat];exact Nat.mod_eq_of_lt (by omega)
 have h1:(BitVec.ofInt 64 (-1:Int)).toNat=18446744073709551615:=by decide
 show IntKind.i64.wrap ((BitVec.ofInt 64 (-1:Int) ^^^ BitVec.ofInt 64 (n:Int)).toNat:Int)=_
 rw[BitVec.toNat_xor,h1,h2,aaz n (by omega),IntKind.wrap_i64]
 omega
theorem E8{m:Nat}(h:m % 2=1):rU m = -((m:Int) / 2)-1:=by unfold rU;rw[if_pos h];omega
theorem Cj{m:Nat}(h:¬ m % 2=1):rU m=(m:Int) / 2:=by unfold rU;rw[if_neg h];omega
theorem qH(w:World)(n:Nat)(os:Array Obj):Below w.heap.size w (Sort.grow (w.drew.drewN n) os):=by
 have h1:Below w.heap.size w w.drew:=(Below.refl _ _).drew
 have h2:Below w.drew.heap.size w.drew (Sort.grow (w.drew.drewN n) os):=below_grow _ _ _
 exact h1.trans h2
theorem yI:∀ (k u:Nat),u<10 ^ (k+1)→(Lib.decDigits u).length≤k+1
 | 0,u,h=>by rw[Lib.decDigits,dif_pos (by omega)];simp
 | k+1,u,h=>by
  rw[Lib.decDigits]
  by_cases h1:u<10
  ·rw[dif_pos h1];simp
  ·rw[dif_neg h1,List.length_append]
   have:=yI k (u / 10) (by rw[Nat.pow_succ] at h;omega)
   simp;omega
theorem JO(v:Int)(h:In64 v):(Lib.itoa v).length≤20:=by
 obtain⟨h1,h2⟩:=h
 have e:(10:Nat) ^ (18+1)=10000000000000000000:=by decide
 unfold Lib.itoa
 split
 ·have:=yI 18 v.natAbs (by rw[e];omega)
  simp;omega
 ·have:=yI 18 v.toNat (by rw[e];omega)
  omega
theorem G9(w:World)(db lo:Nat)(lv v dv:Value)(L d:List UInt8)(h:yH w db lo lv v L)(hd:pF w dv d)(hdl:d.length≤1000)(hE:Env w)(hl:L.length≤900000000)(hlo:lo≤w.heap.size):
  Calls Tryz.prog 236 #[.pointer (some ⟨db,0,none⟩),dv] w (jl ((gX d).map fun m=>Lib.itoa (rU m)) w db lo lv L 20):=by
 unfold jl
 obtain⟨da,dc,hdv⟩:∃ a c,dv=.slice a d.length c:=hd.1.slice
 subst hdv
 have H:=hid h
 have HD:=hid hd
 have HE:=hid hE
 clear h hd hE
 go_enter func236,ntmps236
 go_wp2_with fail
 refine(qG w _ d HD.out hdl).mono ?_;rintro e w1 ⟨m,ok,rfl,hm,hb1,hw⟩
 have HW:=hid hw
 have H1:=hid (H.out.below hb1)
 have EI:=hid (HE.out.below hb1)
 have hz1:=hb1.size
 clear hw
 cases ok with
 | false=>
  go_wp2_with fail
  go_ret
  exact⟨false,v,[],rfl,by simpa using H1.out,DF.bG _ hb1,by simp,by rw[show gX d=none from HW.out];rfl⟩
 | true=>
  have ha:=and1 m hm
  have hm2:((m:Int) / 2)=((m / 2:Nat):Int):=by omega
  by_cases hodd:m % 2=1
  ·rw[hodd] at ha
   have HU:=hid (show (gX d).map (fun m=>Lib.itoa (rU m))=some (Lib.itoa (-((m:Int) / 2)-1)) by rw[show gX d=some m from HW.out,Option.map_some,E8 hodd])
   have hin:In64 (-((m:Int) / 2)-1):=by rw[← E8 hodd];exact JI hm
   obtain⟨z,HZ⟩:∃ z:Int,Hid (-((m:Int) / 2)-1=z):=⟨_,hid rfl⟩
   rw[HZ.out] at HU hin
   have hx:bits BinOp.xor IntKind.i64 (-1) ((m:Int) / 2)=z:=by rw[hm2,Yy _ (by omega),← hm2];exact HZ.out
   clear hm2 hodd
   obtain⟨hi1,hi2⟩:=hin
   have QF:=hid (show (ByteArray.mk (Lib.itoa z).toArray).toList=Lib.itoa z by rw[ByteArray.toList_eq])
   have Yc:=hid (JO z ⟨hi1,hi2⟩)
   obtain⟨fb,HFB⟩:∃ fb,Hid (ByteArray.mk (Lib.itoa z).toArray=fb):=⟨_,hid rfl⟩
   rw[HFB.out] at QF
   have hfs:fb.size≤20:=by rw[← aF,QF.out];exact Yc.out
   go_wp2_with fail
   go_region_with (first | (go_at_call 149;refine(Tryz.y_strconv_FormatInt_10 z hi1 hi2 _ (EI.out.below (Below.refl _ _).drew).t).mono ?_;rintro e w3 ⟨rfl,kk,os,hw3⟩;rw[HFB.out];have HB3:=hid (show Below w1.heap.size w1 w3 by rw[hw3];exact qH _ _ _);clear hw3) | (go_at_call 253;refine(jC _ db lo lv v L fb (H1.out.below HB3.out) (by omega) (by omega) (by have:=HB3.out.size;omega)).mono ?_;rintro e w4 ⟨rfl,v4,hd4,hf4⟩;have HD4:=hid hd4;have Q9:=hid hf4;clear hd4 hf4))
   all_goals
    go_wp2_with fail
    go_ret
    exact⟨true,v4,fb.toList,rfl,HD4.out,((DF.bG _ hb1).trans (DF.bG _ HB3.out)).trans Q9.out,by rw[aF];exact hfs,by rw[QF.out];exact HU.out⟩
  ·rw[show m % 2=0 by omega] at ha
   have HU:=hid (show (gX d).map (fun m=>Lib.itoa (rU m))=some (Lib.itoa ((m:Int) / 2)) by rw[show gX d=some m from HW.out,Option.map_some,Cj hodd])
   have hin:In64 ((m:Int) / 2):=by rw[← Cj hodd];exact JI hm
   obtain⟨z,HZ⟩:∃ z:Int,Hid ((m:Int) / 2=z):=⟨_,hid rfl⟩
   rw[HZ.out] at HU hin
   have hx:(m:Int) / 2=z:=HZ.out
   clear hm2 hodd
   obtain⟨hi1,hi2⟩:=hin
   have QF:=hid (show (ByteArray.mk (Lib.itoa z).toArray).toList=Lib.itoa z by rw[ByteArray.toList_eq])
   have Yc:=hid (JO z ⟨hi1,hi2⟩)
   obtain⟨fb,HFB⟩:∃ fb,Hid (ByteArray.mk (Lib.itoa z).toArray=fb):=⟨_,hid rfl⟩
   rw[HFB.out] at QF
   have hfs:fb.size≤20:=by rw[← aF,QF.out];exact Yc.out
   go_wp2_with fail
   go_region_with (first | (go_at_call 149;refine(Tryz.y_strconv_FormatInt_10 z hi1 hi2 _ (EI.out.below (Below.refl _ _).drew).t).mono ?_;rintro e w3 ⟨rfl,kk,os,hw3⟩;rw[HFB.out];have HB3:=hid (show Below w1.heap.size w1 w3 by rw[hw3];exact qH _ _ _);clear hw3) | (go_at_call 253;refine(jC _ db lo lv v L fb (H1.out.below HB3.out) (by omega) (by omega) (by have:=HB3.out.size;omega)).mono ?_;rintro e w4 ⟨rfl,v4,hd4,hf4⟩;have HD4:=hid hd4;have Q9:=hid hf4;clear hd4 hf4))
   all_goals
    go_wp2_with fail
    go_ret
    exact⟨true,v4,fb.toList,rfl,HD4.out,((DF.bG _ hb1).trans (DF.bG _ HB3.out)).trans Q9.out,by rw[aF];exact hfs,by rw[QF.out];exact HU.out⟩
theorem OG{names:List ByteArray}{d:List UInt8}{i:Nat}(h:gX d=some i):yG (names.map ByteArray.toList) d=(names[i]?).map ByteArray.toList:=by
 unfold yG;rw[h];simp
theorem zF(w:World)(db lo lo2:Nat)(lv v dv nv:Value)(L d:List UInt8)(names:List ByteArray)(h:yH w db lo lv v L)(hd:pF w dv d)(hdl:d.length≤1000)(hn:w.ownsRow lo2 9 1 nv names.length (names.map jd))(hnl:names.length≤400)(hns:∀ n∈names,n.size≤400)(hl:L.length≤900000000)(hlo:lo≤w.heap.size):
  Calls Tryz.prog 237 #[.pointer (some ⟨db,0,none⟩),nv,dv] w (jl (yG (names.map ByteArray.toList) d) w db lo lv L 400):=by
 unfold jl
 obtain⟨da,dc,hdv⟩:∃ a c,dv=.slice a d.length c:=hd.1.slice
 subst hdv
 obtain⟨na,nc,yx⟩:∃ a c,nv=.slice a names.length c:=ay hn
 subst yx
 have H:=hid h
 have HD:=hid hd
 have HN:=hid hn
 have Vk:=hid hns
 clear h hd hn hns
 go_enter func237,ntmps237
 go_wp2_with fail
 refine(qG w _ d HD.out hdl).mono ?_;rintro e w1 ⟨m,ok,rfl,hm,hb1,hw⟩
 have HW:=hid hw
 have H1:=hid (H.out.below hb1)
 have Tv:=hid (aC HN.out (fun g hg=>hb1.block g (HN.out.lt g hg).2))
 have hz1:=hb1.size
 clear hw
 cases ok with
 | false=>
  have HX:=hid (show yG (names.map ByteArray.toList) d=none by unfold yG;rw[show gX d=none from HW.out];rfl)
  go_wp2_with fail
  go_ret
  exact⟨false,v,[],rfl,by simpa using H1.out,DF.bG _ hb1,by simp,HX.out⟩
 | true=>
  have hwr:IntKind.u64.wrap (names.length:Int)=(names.length:Int):=by rw[IntKind.wrap_u64];omega
  by_cases hlt:m<names.length
  ·obtain⟨s,hs⟩:∃ s,names[m]? = some s:=⟨names[m],List.getElem?_eq_getElem hlt⟩
   have HX:=hid (show yG (names.map ByteArray.toList) d=some s.toList by rw[OG (show gX d=some m from HW.out),hs];rfl)
   have aeE:s.size≤400:=Vk.out s (List.mem_of_getElem? hs)
   obtain⟨g,c,hv,hg,hcell⟩:=Yg Tv.out (by omega)
   obtain⟨rfl,rfl⟩:na=some ⟨g,0,none⟩∧nc=c:=by simpa using hv
   have hx:w1.cell? ⟨g,m,none⟩=some (.string s):=hcell m s hs
   have fO:¬ (names.length:Int)≤(m:Int):=by omega
   have ane:decide ((names.length:Int)≤(m:Int))=false:=by simpa using fO
   clear hv hcell hs
   have hx':w1.drew.cell? ⟨g,m,none⟩=some (.string s):=hx
   go_wp2_with fail
   go_region_with (go_at_call 253;refine(jC _ db lo lv v L s (H1.out.below (Below.refl _ _).drew) (by omega) (by omega) (by show lo≤w1.heap.size;omega)).mono ?_;rintro e w4 ⟨rfl,v4,hd4,hf4⟩;have HD4:=hid hd4;have Q9:=hid hf4;clear hd4 hf4)
   all_goals
    go_wp2_with fail
    go_ret
    exact⟨true,v4,s.toList,rfl,HD4.out,((DF.bG _ hb1).trans (DF.bG _ (Below.refl _ _).drew)).trans Q9.out,by rw[aF];exact aeE,HX.out⟩
  ·have HX:=hid (show yG (names.map ByteArray.toList) d=none by rw[OG (show gX d=some m from HW.out),List.getElem?_eq_none (by omega)];rfl)
   have fO:(names.length:Int)≤(m:Int):=by omega
   go_wp2_with fail
   go_ret
   exact⟨false,v,[],rfl,by simpa using H1.out,DF.bG _ hb1,by simp,HX.out⟩
theorem DF.below{db lo:Nat}{w w':World}(h:DF db lo w w')(hd:lo≤db)(hl:lo≤w.heap.size):Below lo w w' :=
 ⟨h.os,h.tape,h.output,h.size,fun k hk=>h.block k (by omega) (by omega) (Or.inl hk)⟩
theorem aeF(x:Nat)(h:x≤255):bits BinOp.and IntKind.u8 (x:Int) 15=((x % 16:Nat):Int):=by
 have all:∀ a:Fin 256,bits BinOp.and IntKind.u8 ((a.val:Nat):Int) 15=((a.val % 16:Nat):Int):=by decide +kernel
 exact all ⟨x,by omega⟩
theorem Rf(w:World)(c1 c2 c3:UInt8):gZ ((w.alloc (.cells #[.int .u8 (c1.toNat:Int),.int .u8 (c2.toNat:Int),.int .u8 (c3.toNat:Int)] 5)).drew) w.heap.size (.slice (some ⟨w.heap.size,0,none⟩) 3 3) [c1,c2,c3]:=by
 have:=World.ownsRow_lit (base:=w.heap.size) (e:=5) (size:=1) w #[.int .u8 (c1.toNat:Int),.int .u8 (c2.toNat:Int),.int .u8 (c3.toNat:Int)] 3 (by simp) (by unfold maxLen;omega) rfl
 exact aC this (fun _ _=>rfl)
theorem Vl(n:Nat)(h:n<16)(i:Int)(hi:i.toNat=n)(hb:i.toNat<(ByteArray.mk #[48,49,50,51,52,53,54,55,56,57,97,98,99,100,101,102]).size):(ByteArray.mk #[48,49,50,51,52,53,54,55,56,57,97,98,99,100,101,102])[i.toNat]=hexD n:=by
 subst hi
 have all:∀ a:Fin 16,(ByteArray.mk #[48,49,50,51,52,53,54,55,56,57,97,98,99,100,101,102])[a.val]'a.isLt=hexD a.val:=by decide
 exact all ⟨i.toNat,h⟩
theorem JQ(c:UInt8):(yF c).length≤3:=by unfold yF;split<;>simp
theorem Vm(l:List UInt8):(l.flatMap yF).length≤3*l.length:=by
 induction l with
 | nil=>simp
 | cons c r ih=>rw[List.flatMap_cons,List.length_append,List.length_cons];have:=JQ c;omega
theorem He(w:World)(db lo:Nat)(lv v dv:Value)(L d:List UInt8)(h:yH w db lo lv v L)(hd:pF w dv d)(hdl:d.length≤1000)(hdb:∀ k,dv.ownBlock=some k→0<d.length→k<lo)(ah5:lo≤db)(hl:L.length≤900000000)(hlo:lo≤w.heap.size):
  Calls Tryz.prog 238 #[.pointer (some ⟨db,0,none⟩),dv] w fun e w'=>e=.returned (.tuple #[])∧zA w db lo lv (L++BL d) w':=by
 unfold zA
 obtain⟨da,dc,hdv⟩:∃ a c,dv=.slice a d.length c:=hd.1.slice
 subst hdv
 have H:=hid h
 have HD:=hid hd.1
 have HDB:=hid hdb
 clear h hd hdb
 go_enter func238,ntmps238
 go_wp2_with fail
 refine(fA _ db lo lv v L 34 34 rfl H.out (by omega) hlo).mono ?_;rintro e w1 ⟨rfl,v1,hd1,hf1⟩
 have HT1:=hid hd1
 have HF1:=hid hf1
 clear hd1 hf1
 go_wp2_with fail
 go_loopg [5,12] d.length (fun gk x5 i12 wr=>∃ (k:Nat) (v':Value) (T:List UInt8),k+gk=d.length∧i12=.int .i64 k∧Hid (yH wr db lo lv v' T)∧Hid (T=L++34::(d.take k).flatMap yF)∧T.length≤L.length+1+3*k∧DF db lo w wr)
 case atStart=>exact⟨0,v1,L++[34],by omega,rfl,hid HT1.out,hid (by simp),by simp,HF1.out⟩
 case round=>
  obtain⟨k,v',T,hk,rfl,HDT,HTE,hTl,hdf⟩:=hrel
  have Rh:=hdf.size
  by_cases hlt:k<d.length
  ·obtain⟨b,o,c',hv,hb,hcell⟩:=(HD.out.same (hdf.below ah5 hlo) (fun q hq h0=>HDB.out q hq h0)).at (by omega)
   obtain⟨rfl,rfl⟩:da=some ⟨b,o,none⟩∧dc=c':=by simpa using hv
   have hx:wr.cell? ⟨b,o+k,none⟩=some (.int .u8 (d[k].toNat:Int)):=hcell k hlt
   clear hv hcell
   obtain⟨c,HC⟩:∃ c,Hid (d[k]=c):=⟨_,hid rfl⟩
   rw[HC.out] at hx
   have HT2:=hid (show L++34::(d.take (k+1)).flatMap yF=T++yF c by rw[HTE.out,List.take_succ_eq_append_getElem hlt,HC.out];simp)
   have HPC:=hid (BJ c).symm
   cases hpl:iV c with
   | true=>
    have HL:=hid (show yF c=[c] by unfold yF;rw[hpl];rfl)
    rw[hpl] at HPC
    clear hpl
    go_wp2_with fail
    refine(nX _ _).mono ?_;rintro e w2 ⟨rfl,rfl⟩
    rw[HPC.out]
    go_wp2_with fail
    refine(fA _ db lo lv v' T c _ rfl HDT.out (by omega) (by omega)).mono ?_;rintro e w3 ⟨rfl,v3,hd3,hf3⟩
    have HD3:=hid hd3
    have yJ:=hdf.trans hf3
    clear hd3 hf3
    go_wp2_with fail
    go_roundg (gk-1)
    case rel=>exact⟨k+1,v3,T++[c],by omega,by go_num,hid HD3.out,hid (by rw[HT2.out,HL.out]),by rw[List.length_append,List.length_singleton];omega,yJ⟩
    case measure=>omega
   | false=>
    rw[hpl] at HPC
    have hc255:c.toNat≤255:=by have:=c.toNat_lt;omega
    have QW:=hid hpl
    clear hpl
    go_wp2_with fail
    refine(nX _ _).mono ?_;rintro e w2 ⟨rfl,rfl⟩
    rw[HPC.out]
    have anf:=aeF c.toNat hc255
    have hd1:(0:Int)≤(c.toNat:Int) / 16:=by omega
    have hd2:(c.toNat:Int) / 16<16:=by omega
    have hd3:(c.toNat % 16:Nat)<16:=by omega
    go_wp2_with fail
    go_region_with (go_at_call 255;refine(ML _ db lo w2.heap.size lv v' _ T 92 _ _ (HDT.out.below ((Below.refl _ _).alloc (Nat.le_refl _) _).drew) (Rf w2 _ _ _) (fun e=>by have:=HDT.out.lt;simp[Value.ownBlock] at e;omega) (by omega) (by simp;omega)).mono ?_;rintro e w4 ⟨rfl,v4,hd4,hf4⟩;have HD4:=hid hd4;have Q9:=hid hf4;clear hd4 hf4)
    all_goals
     rw[Vl (c.toNat / 16) (by omega) ((c.toNat:Int) / 16) (by omega),Vl (c.toNat % 16) (by omega) ((c.toNat:Int) % 16) (by omega)] at HD4
     have HL:=hid (show yF c=[92,hexD (c.toNat / 16),hexD (c.toNat % 16)] by unfold yF;rw[QW.out];rfl)
     have Eh:=(hdf.trans (DF.bG _ ((Below.refl _ _).alloc (Nat.le_refl _) _).drew)).trans Q9.out
     go_wp2_with fail
     go_roundg (gk-1)
     case rel=>exact⟨k+1,v4,T++yF c,by omega,by go_num,hid (by rw[HL.out];have:=HD4.out;simpa using this),hid (by rw[HT2.out]),by rw[List.length_append];have:=JQ c;omega,Eh⟩
     case measure=>omega
  ·have HTe:=hid (show T=L++34::d.flatMap yF by rw[HTE.out,List.take_of_length_le (by omega)])
   go_wp2_with fail
   refine(fA _ db lo lv v' T 34 34 rfl HDT.out (by omega) (by omega)).mono ?_;rintro e w3 ⟨rfl,v3,hd3,hf3⟩
   have HD3:=hid hd3
   have yJ:=hdf.trans hf3
   clear hd3 hf3
   go_wp2_with fail
   go_end0
   exact⟨rfl,v3,by have:=HD3.out;rw[HTe.out] at this;unfold BL;simpa using this,yJ⟩
def fD(x:Nat × Value):List Value:=[.int .u64 x.1,x.2]
def Vo(w:World)(lo Fa:Nat)(pv:Value)(ps:List (Nat × List UInt8)):Prop:=∃ us:List (Nat × Value),us.length=ps.length∧w.ownsRow lo 356 2 pv us.length (us.flatMap fD) ∧
 ∀ (i:Nat) (x:Nat × Value) (p:Nat × List UInt8),us[i]? = some x→ps[i]? = some p→x.1=p.1∧pF w x.2 p.2∧(∀ k,x.2.ownBlock=some k→k<Fa)
theorem pF.same{w w':World}{v:Value}{L:List UInt8}{B:Nat}(h:pF w v L)(hb:Below B w w')(hB:∀ k,v.ownBlock=some k→k<B):pF w' v L:=⟨h.1.same hb (fun k hk _=>hB k hk),h.2⟩
theorem Vo.below{w w':World}{lo Fa:Nat}{pv:Value}{ps:List (Nat × List UInt8)}(h:Vo w lo Fa pv ps)(hb:Below w.heap.size w w')(hd:Fa≤w.heap.size):Vo w' lo Fa pv ps:=by
 obtain⟨us,hl,ho,hr⟩:=h
 refine⟨us,hl,aC ho (fun g hg=>hb.block g (ho.lt g hg).2),fun i x p hx hp=>?_⟩
 obtain⟨h1,h2,h3⟩:=hr i x p hx hp
 exact⟨h1,h2.same hb (fun k hk=>by have:=h3 k hk;omega),h3⟩
def Cm(d:List UInt8)(f last:Nat)(D:List UInt8)(ps:List (Nat × List UInt8)):Prop:=D.length≤f∧jr d=(kD f last D).map fun o=>ps++o
theorem Cm.begin(d:List UInt8):Cm d d.length 0 d []:=⟨Nat.le_refl _,by unfold jr;cases kD d.length 0 d<;>simp⟩
theorem Cm.done{d:List UInt8}{f last:Nat}{ps:List (Nat × List UInt8)}(h:Cm d f last [] ps):jr d=some ps:=by
 rw[h.2,vF,if_pos rfl];simp
theorem Cm.step{d:List UInt8}{f last:Nat}{D:List UInt8}{ps:List (Nat × List UInt8)}(h:Cm d f last D ps)(h0:D≠[]):
  jr d=((dR D).bind fun x=>(takeC x.2).bind fun y=>if last<x.1∧x.1≤99 then(kD (f-1) x.1 y.2).map fun o=>(x.1,y.1)::o else none).map fun o=>ps++o:=by
 obtain⟨h1,h2⟩:=h
 have hl:0<D.length:=List.length_pos_iff.2 h0
 obtain⟨f',rfl⟩:∃ f',f=f'+1:=⟨f-1,by omega⟩
 rw[h2,vF,if_neg h0];rfl
theorem Cm.next{d:List UInt8}{f last n:Nat}{D R V R2:List UInt8}{ps:List (Nat × List UInt8)}(h:Cm d f last D ps)(h0:D≠[])(h1:dR D=some (n,R))(h2:takeC R=some (V,R2))(h3:last<n∧n≤99):Cm d (f-1) n R2 (ps++[(n,V)]):=by
 refine⟨?_,?_⟩
 ·have:=kV h1
  have:=tJ h2
  have:=h.1
  omega
 ·rw[h.step h0,h1]
  simp only[Option.bind_some,h2,if_pos h3,Option.map_map]
  congr 1
  funext o
  simp
theorem Tryz.infoPart:(Tryz.prog.info? 356).map (fun i=>(i.zero,i.size,i.bytes))=some (some (.agg #[.int .u64 0,.slice none 0 0]),2,32):=by kernel_rfl
def Fb(w:World)(Fa:Nat)(d:List UInt8)(e:Ending)(w':World):Prop:=∃ (a:Option Addr) (l c:Nat) (ok:Bool),e=.returned (.tuple #[.slice a l c,.bool ok])∧Below w.heap.size w w'∧(match ok with | true=>∃ ps,jr d=some ps∧l=ps.length∧Vo w' w.heap.size Fa (.slice a l c) ps | false=>jr d=none)
theorem zG(w:World)(Fa:Nat)(dv:Value)(d:List UInt8)(hd:pF w dv d)(hdl:d.length≤1000)(hdb:∀ k,dv.ownBlock=some k→0<d.length→k<Fa)(hlo:Fa≤w.heap.size):
  Calls Tryz.prog 256 #[dv] w (Fb w Fa d):=by
 unfold Fb
 obtain⟨da,dc,hdv⟩:∃ a c,dv=.slice a d.length c:=hd.1.slice
 subst hdv
 have HD:=hid hd
 have HDB:=hid hdb
 clear hd hdb
 go_enter func256,ntmps256
 go_wp2_with fail
 go_loopg [0,4,5,6,7,8,9,10,11] d.length (fun gk d0 p4 l5 x6 x7 x8 x9 x10 x11 wr=>∃ (D:List UInt8) (a:Option Addr) (c:Nat) (ps:List (Nat × List UInt8)) (pa:Option Addr) (pc last f:Nat),d0=.slice a D.length c∧D.length≤gk∧gk≤d.length∧Hid (pF wr (.slice a D.length c) D)∧Hid (∀ k,(Value.slice a D.length c).ownBlock=some k→0<d.length→k<Fa)∧p4=.slice pa ps.length pc∧Hid (Vo wr w.heap.size Fa (.slice pa ps.length pc) ps)∧l5=.int .u64 last∧last≤99∧ps.length+D.length≤d.length∧Hid (Cm d f last D ps)∧Below w.heap.size w wr)
 case atStart=>exact⟨d,da,dc,[],none,0,0,d.length,rfl,Nat.le_refl _,Nat.le_refl _,hid HD.out,hid HDB.out,rfl,hid ⟨[],rfl,World.ownsRow_nil _ _ _ _,fun i x p hx=>by simp at hx⟩,rfl,by omega,by simp,hid (Cm.begin d),Below.refl _ _⟩
 case round=>
  obtain⟨D,a,c,ps,pa,pc,last,f,rfl,hDg,hgd,HR,HB,rfl,HP,rfl,anh,hpl,HT,hbel⟩:=hrel
  have Rh:=hbel.size
  by_cases hD0:D.length=0
  ·have hDn:D=[]:=List.eq_nil_of_length_eq_zero hD0
   have HF:=hid (show jr d=some ps by have:=HT.out;rw[hDn] at this;exact this.done)
   clear hDn
   go_wp2_with fail
   go_ret2
   exact⟨pa,ps.length,pc,true,rfl,hbel,ps,HF.out,rfl,HP.out⟩
  ·have ah7:(0:Int)<(D.length:Int):=by omega
   have HDn:=hid (show D≠[] from fun e=>hD0 (by rw[e];rfl))
   go_wp2_with fail
   refine(nV wr _ D HR.out (by omega)).mono ?_;rintro e w1 ⟨n,a1,c1,R,ok1,rfl,hn,hR1,hRl,hblk1,hb1,htk⟩
   have HR1:=hid hR1
   have HB1:=hid (fun k hk=>HB.out k (hblk1 k hk) (by omega))
   have pz:=hid htk
   have hz1:=hb1.size
   have Ov:=hbel.trans (hb1.mono Rh)
   have jJ:=hid (HP.out.below hb1 (by omega))
   clear hR1 hblk1 htk
   go_wp2_with fail
   refine(qF w1 _ R HR1.out (by omega)).mono ?_;rintro e w2 ⟨a2,a3,c2,c3,V,R2,ok2,rfl,hV,hR2,hVR,hblk2,hblk3,hb2,htc⟩
   have HV:=hid hV
   have HR2:=hid hR2
   have HB2:=hid (fun k hk=>HB1.out k (hblk2 k hk))
   have HB3:=hid (fun k hk=>HB1.out k (hblk3 k hk))
   have Yz:=hid htc
   have hz2:=hb2.size
   have qW:=Ov.trans (hb2.mono Ov.size)
   have HP2:=hid (jJ.out.below hb2 (by omega))
   have HST:=hid (HT.out.step HDn.out)
   clear hV hR2 hblk2 hblk3 htc
   cases ok1 with
   | false=>
    have HF:=hid (show jr d=none by rw[HST.out,show dR D=none from pz.out];rfl)
    go_wp2_with fail
    go_ret2
    exact⟨none,0,0,false,rfl,qW,HF.out⟩
   | true=>
    cases ok2 with
    | false=>
     have HF:=hid (show jr d=none by rw[HST.out,show dR D=some (n,R) from pz.out];simp only[Option.bind_some];rw[show takeC R=none from Yz.out];rfl)
     go_wp2_with fail
     go_ret2
     exact⟨none,0,0,false,rfl,qW,HF.out⟩
    | true=>
     have hsh:=kV (show dR D=some (n,R) from pz.out)
     have hcl:=tJ (show takeC R=some (V,R2) from Yz.out)
     by_cases hlast:last<n
     ·have hlI:¬ (n:Int)≤(last:Int):=by omega
      have hlD:decide ((n:Int)≤(last:Int))=false:=by simpa using hlI
      by_cases h99:n≤99
      ·have aeG:¬ (99:Int)<(n:Int):=by omega
       have anj:decide ((99:Int)<(n:Int))=false:=by simpa using aeG
       have HN:=hid (HT.out.next HDn.out pz.out Yz.out ⟨hlast,h99⟩)
       obtain⟨us,hul,huo,hur⟩:=HP2.out
       have HUO:=hid huo
       have HUR:=hid hur
       have Vp:=hid hul
       clear huo hur hul
       rw[Vp.out] at HUO
       go_wp2_with (at_builtin;refine eG _ rfl _ _ 351 356 _ 2 32 rfl underlying351 Tryz.infoPart rfl (by decide) _ ps.length _ w.heap.size rfl (World.ownsRow.alloc HUO.out _) ⟨_,0,none⟩ 1 1 (fD (n,.slice a2 V.length c2)) rfl rfl (dY _ _ (by simp) #[.int .u64 n,.slice a2 V.length c2] _) (by simp[fD,Value.oneCell']) (ps.length+1) rfl _ rfl (by unfold maxLen;omega) (by omega) (by simp;omega) ?_)
       intro a5 c5 w5 ho5 hg5
       have hgb:Below w.heap.size (w2.alloc (.cells #[.int .u64 n,.slice a2 V.length c2] 356)) w5:=hg5.below (fun q hq=>(HUO.out.lt q hq).1) (by simp;omega)
       have YA:Below w.heap.size w2 w5:=((Below.refl _ _).alloc (by omega) _).trans hgb
       have Ux:Below w.heap.size w w5:=qW.trans YA
       have Ad:=hid (show Vo w5 w.heap.size Fa (.slice a5 (ps.length+1) c5) (ps++[(n,V)]) from by
        refine⟨us++[(n,.slice a2 V.length c2)],by simp[Vp.out],?_,fun i x p hx hp=>?_⟩
        ·have:=ho5
         rw[List.length_append,List.length_singleton,Vp.out,List.flatMap_append]
         simpa using this
        ·rcases Nat.lt_or_ge i us.length with hi | hi
         ·rw[List.getElem?_append_left hi] at hx
          rw[List.getElem?_append_left (by have:=Vp.out;omega)] at hp
          obtain⟨h1,h2,h3⟩:=HUR.out i x p hx hp
          exact⟨h1,h2.same YA (fun k hk=>by have:=h3 k hk;omega),h3⟩
         ·rw[List.getElem?_append_right hi] at hx
          rw[List.getElem?_append_right (by have:=Vp.out;omega)] at hp
          have hi0:i-us.length=0:=by
           rcases Nat.eq_zero_or_pos (i-us.length) with e | e
           ·exact e
           ·rw[List.getElem?_eq_none (by simp;omega)] at hx;cases hx
          rw[hi0] at hx
          rw[show i-ps.length=0 by have:=Vp.out;omega] at hp
          simp at hx hp
          subst hx hp
          exact⟨rfl,HV.out.same YA (fun k hk=>by have:=HB2.out k hk;omega),HB2.out⟩)
       have MN:=hid (HR2.out.same YA (fun k hk=>by have:=HB3.out k hk;omega))
       have QW:=hid (show (ps++[(n,V)]).length=ps.length+1 by simp)
       clear ho5 hg5 hgb
       go_wp2_with fail
       go_roundg R2.length
       case rel=>exact⟨R2,a3,c3,ps++[(n,V)],a5,c5,n,f-1,rfl,Nat.le_refl _,by omega,hid MN.out,hid (fun k hk _=>HB3.out k hk),by rw[QW.out],hid (by rw[QW.out];exact Ad.out),rfl,h99,by rw[QW.out];omega,hid HN.out,Ux⟩
       case measure=>omega
      ·have aeG:(99:Int)<(n:Int):=by omega
       have HF:=hid (show jr d=none by rw[HST.out,show dR D=some (n,R) from pz.out];simp only[Option.bind_some];rw[show takeC R=some (V,R2) from Yz.out];simp only[Option.bind_some];rw[if_neg (by omega)];rfl)
       go_wp2_with fail
       go_ret2
       exact⟨none,0,0,false,rfl,qW,HF.out⟩
     ·have hlI:(n:Int)≤(last:Int):=by omega
      have HF:=hid (show jr d=none by rw[HST.out,show dR D=some (n,R) from pz.out];simp only[Option.bind_some];rw[show takeC R=some (V,R2) from Yz.out];simp only[Option.bind_some];rw[if_neg (by omega)];rfl)
      go_wp2_with fail
      go_ret2
      exact⟨none,0,0,false,rfl,qW,HF.out⟩
structure Fits(l d:Nat):Prop where
 out:l+1000*(d+1)≤800000000
structure aeI(s D m d:Nat):Prop where
 out:s+1000*D≤1+1000*d+m
abbrev decP(X:List aO)(n:Nat):=U0 (tyP X) n
def Vq(X:List aO)(n:Nat):Prop:=∀ (w0 w:World) (db lo:Nat) (la:Option Addr) (ll lc:Nat) (v dv:Value) (L d:List UInt8) (base:ByteArray),dK w0 lo (.slice la ll lc) X→pF w0 dv d→Env w0→Below w0.heap.size w0 w→w0.heap.size≤db→yH w db w0.heap.size (.slice la ll lc) v L→d.length≤64→Fits L.length d.length →
 Calls Tryz.prog 204 #[.pointer (some ⟨db,0,none⟩),.string base,dv,.int .i64 ((7:Int)-n)] w (jl ((decP X n).1 base.toList d) w db w0.heap.size (.slice la ll lc) L (1000*(d.length+1)))
def Vr(X:List aO)(n:Nat):Prop:=∀ (w0 w:World) (db lo:Nat) (la:Option Addr) (ll lc:Nat) (v dv:Value) (L d:List UInt8) (base:ByteArray),dK w0 lo (.slice la ll lc) X→pF w0 dv d→Env w0→Below w0.heap.size w0 w→w0.heap.size≤db→yH w db w0.heap.size (.slice la ll lc) v L→d.length≤64→Fits L.length d.length →
 Calls Tryz.prog 269 #[.pointer (some ⟨db,0,none⟩),.string base,dv,.int .i64 ((7:Int)-n)] w (jl ((decP X n).2 base.toList d) w db w0.heap.size (.slice la ll lc) L (1000*(d.length+1)))
theorem pF.later{w w':World}{v:Value}{L:List UInt8}(h:pF w v L)(hb:Below w.heap.size w w'):pF w' v L:=⟨h.1.later hb,h.2⟩
theorem pF.back{w w':World}{v u:Value}{L D:List UInt8}(h:pF w' v L)(hb:Below w.heap.size w w')(hd:pF w u D)(hk:∀ k,v.ownBlock=some k→u.ownBlock=some k)(hl:0<L.length→0<D.length):pF w v L:=by
 refine⟨?_,h.2⟩
 rcases h.1 with h1 | ⟨a,c,rfl,hc⟩
 ·exact Or.inl h1
 ·refine Or.inr ⟨a,c,rfl,fun j x hx=>?_⟩
  have hL:0<L.length:=by
   rcases Nat.eq_zero_or_pos L.length with e | e
   ·have:=List.eq_nil_of_length_eq_zero e;subst this;simp at hx
   ·exact e
  have h1:=hc j x hx
  have h2:(a.add j).block=a.block:=by unfold Addr.add;split<;>rfl
  have h3:=hd.1.lt a.block (hk a.block rfl) (hl hL)
  rw[hb.cell (p:=a.add j) (by rw[h2];exact h3)] at h1
  exact h1
theorem jl.turn{spec spec':rV}{w:World}{db lo:Nat}{lv:Value}{L:List UInt8}{K K':Nat}{e:Ending}{w':World}(h:jl spec w db lo lv L K e w')(hs:spec'=spec)(hk:K≤K'):jl spec' w db lo lv L K' e w':=by
 subst hs
 obtain⟨ok,v',S,h1,h2,h3,h4,h5⟩:=h
 exact⟨ok,v',S,h1,h2,h3,by omega,h5⟩
theorem jl.back{spec:rV}{w wf:World}{db lo:Nat}{lv:Value}{L:List UInt8}{K:Nat}{e:Ending}{w':World}(h:jl spec wf db lo lv L K e w')(hb:Below w.heap.size w wf):jl spec w db lo lv L K e w':=by
 obtain⟨ok,v',S,h1,h2,h3,h4,h5⟩:=h
 exact⟨ok,v',S,h1,h2,(DF.bG _ hb).trans h3,h4,h5⟩
theorem Hf(X:List aO):Vr X 0:=by
 intro w0 w db lo la ll lc v dv L d base hI hd hE hb hdb h hdl hL
 unfold jl
 obtain⟨da,dc,hdv⟩:∃ a c,dv=.slice a d.length c:=hd.1.slice
 subst hdv
 have H:=hid h
 clear h hI hE hd
 rw[show (7:Int)-(0:Nat)=7 by omega]
 go_enter func269,ntmps269
 go_wp2_with fail
 go_ret
 exact⟨false,v,[],rfl,by simpa using H.out,DF.refl _ _ _,by simp,rfl⟩
def Vs(G:rV)(val:List UInt8→rV)(D:List UInt8)(m:Nat)(S:List UInt8):Prop:=m≤16∧G=(zy val (16-m) (decide (m=0)) D).map fun o=>S++o
theorem Vs.begin{G:rV}{val:List UInt8→rV}{d:List UInt8}(h:G=(zy val 16 true d).map fun o=>91::o):Vs G val d 0 [91]:=by
 refine⟨by omega,?_⟩
 rw[h]
 simp
theorem Vs.shut{G:rV}{val:List UInt8→rV}{m:Nat}{S:List UInt8}(h:Vs G val [] m S):G=some (S++[93]):=by
 rw[h.2,Ci,if_pos rfl];rfl
theorem Vs.bad{G:rV}{val:List UInt8→rV}{D:List UInt8}{m:Nat}{S:List UInt8}(h:Vs G val D m S)(h0:D≠[])(hb:takeC D=none∨m=16):G=none:=by
 rw[h.2,Ci,if_neg h0]
 rcases hb with hb | hb
 ·cases 16-m with
  | zero=>rfl
  | succ q=>simp[hb]
 ·rw[hb];rfl
theorem Vs.next{G:rV}{val:List UInt8→rV}{D V R:List UInt8}{m:Nat}{S:List UInt8}(h:Vs G val D m S)(h0:D≠[])(hm:m<16)(ht:takeC D=some (V,R)):
  (val V=none→G=none)∧∀ s,val V=some s→Vs G val R (m+1) (S++(Jy (decide (m=0))++s)):=by
 have h':=h.2
 rw[Ci,if_neg h0] at h'
 obtain⟨q,hq⟩:∃ q,16-m=q+1:=⟨15-m,by omega⟩
 rw[hq] at h'
 simp only[ht,Option.bind_some] at h'
 refine⟨fun hv=>by rw[h',hv];rfl,fun s hv=>⟨by omega,?_⟩⟩
 rw[h',hv,show 16-(m+1)=q by omega,show decide (m+1=0)=false by simp]
 simp only[Option.bind_some,Option.map_map]
 congr 1
 funext o
 simp
theorem Ri{X:List aO}{n:Nat}(hn6:n≤6)(hV:Vq X n):Vr X (n+1):=by
 intro w0 w db lo la ll lc v dv L d base hI hd hE hb hdb h hdl hL
 unfold jl
 obtain⟨da,dc,hdv⟩:∃ a c,dv=.slice a d.length c:=hd.1.slice
 subst hdv
 obtain⟨dd,hdd⟩:∃ dd:Int,dd=(7:Int)-((n+1:Nat):Int):=⟨_,rfl⟩
 rw[← hdd]
 have HDD:=hid (show dd+1=(7:Int)-n by omega)
 have hd6:¬ (6:Int)<dd:=by omega
 have hdl0:(0:Int)≤dd:=by omega
 clear hdd
 have H:=hid h
 have HI:=hid hI
 have HE:=hid hE
 have HV:=hid hV
 have HD:=hid hd
 clear h hI hE hV hd
 obtain⟨G,hG⟩:∃ G,(decP X (n+1)).2 base.toList d=G:=⟨_,rfl⟩
 rw[hG]
 have HG:=hid (show G=(zy ((decP X n).1 base.toList) 16 true d).map fun o=>91::o by rw[← hG];rfl)
 clear hG
 have hz0:=hb.size
 have HL:=hL
 have vw:=hid hdl
 clear hL hdl
 go_enter func269,ntmps269
 go_wp2_with fail
 refine(fA _ db w0.heap.size _ v L 91 91 rfl H.out (by have h1:=HL.out;omega) hz0).mono ?_;rintro e w1 ⟨rfl,v1,hd1,hf1⟩
 have HT1:=hid hd1
 have HF1:=hid hf1
 clear hd1 hf1
 go_wp2_with fail
 go_loopg [2,9,10,11,12] 17 (fun gk d2 c9 x10 x11 x12 wr=>∃ (m:Nat) (D:List UInt8) (a:Option Addr) (c:Nat) (v':Value) (S:List UInt8),m+gk=17∧c9=.int .i64 m∧d2=.slice a D.length c∧Hid (pF w0 (.slice a D.length c) D)∧Hid (D.length≤d.length)∧Hid (yH wr db w0.heap.size (.slice la ll lc) v' (L++S))∧aeI S.length D.length m d.length∧DF db w0.heap.size w wr∧Hid (Vs G ((decP X n).1 base.toList) D m S))
 case atStart=>exact⟨0,d,da,dc,v1,[91],by omega,rfl,rfl,hid HD.out,hid (Nat.le_refl _),hid HT1.out,⟨by simp⟩,HF1.out,hid (Vs.begin HG.out)⟩
 case round=>
  obtain⟨m,D,a,c,v',S,hm,rfl,rfl,HR,HDd,HT,Vt,hdf,HS⟩:=hrel
  have aia:m≤16:=HS.out.1
  have hbr:Below w0.heap.size w0 wr:=hb.trans (hdf.below hdb hz0)
  have Rh:=hbr.size
  by_cases hD0:D.length=0
  ·have hDn:D=[]:=List.eq_nil_of_length_eq_zero hD0
   have HF:=hid (show G=some (S++[93]) by have:=HS.out;rw[hDn] at this;exact this.shut)
   clear hDn
   go_wp2_with fail
   refine(fA _ db w0.heap.size _ v' (L++S) 93 93 rfl HT.out (by rw[List.length_append];have h1:=HL.out;have h2:=Vt.out;omega) Rh).mono ?_;rintro e w2 ⟨rfl,v2,hd2,hf2⟩
   have HD2:=hid hd2
   have JR:=hdf.trans hf2
   clear hd2 hf2
   go_wp2_with fail
   go_ret
   exact⟨true,v2,S++[93],rfl,by rw[← List.append_assoc];exact HD2.out,JR,by rw[List.length_append,List.length_singleton];have h2:=Vt.out;omega,HF.out⟩
  ·have ah7:(0:Int)<(D.length:Int):=by omega
   have HDn:=hid (show D≠[] from fun e=>hD0 (by rw[e];rfl))
   have HRr:=hid (HR.out.later hbr)
   go_wp2_with fail
   refine(qF wr _ D HRr.out (by have h3:=HDd.out;have h4:=vw.out;omega)).mono ?_;rintro e w2 ⟨a2,a3,c2,c3,V,R,ok2,rfl,hV,hR2,hVR,hblk2,hblk3,hb2,htc⟩
   have zT:Below w0.heap.size w0 w2:=hbr.trans (hb2.mono Rh)
   have Xq:=hid (hV.back zT HR.out hblk2 (fun _=>by omega))
   have HR0:=hid (hR2.back zT HR.out hblk3 (fun _=>by omega))
   have Yz:=hid htc
   have HT2:=hid (HT.out.below hb2)
   have JR:=hdf.trans (DF.bG _ hb2)
   have hz2:=zT.size
   clear hV hR2 hblk2 hblk3 htc
   cases ok2 with
   | false=>
    have HF:=hid (HS.out.bad HDn.out (Or.inl Yz.out))
    go_wp2_with fail
    go_ret
    exact⟨false,v',S,rfl,HT2.out,JR,by have h2:=Vt.out;have h3:=HDd.out;omega,HF.out⟩
   | true=>
    have hcl:=tJ (show takeC D=some (V,R) from Yz.out)
    by_cases h16:m=16
    ·have HF:=hid (HS.out.bad HDn.out (Or.inr h16))
     subst h16
     go_wp2_with fail
     go_ret
     exact⟨false,v',S,rfl,HT2.out,JR,by have h2:=Vt.out;have h3:=HDd.out;omega,HF.out⟩
    ·have aib:¬ (m:Int)=16:=by omega
     have aic:((m:Int)==16)=false:=by simp;omega
     have HNX:=hid (HS.out.next HDn.out (by omega) Yz.out)
     by_cases hm0:m=0
     ·subst hm0
      have HBW:=hid zT
      have HDW:=HT2
      have abE:=hid JR
      have HVV:=hid (HV.out w0 w2 db lo la ll lc v' (.slice a2 V.length c2) (L++S) V base HI.out Xq.out HE.out HBW.out hdb HDW.out (by have h3:=HDd.out;have h4:=vw.out;omega) ⟨by rw[List.length_append];have h1:=HL.out;have h2:=Vt.out;omega⟩)
      rw[← HDD.out] at HVV
      go_wp2_with fail
      refine HVV.out.mono ?_;rintro e w4 ⟨YB,v4,S4,rfl,hd4,hf4,hl4,xE⟩
      have HD4:=hid hd4
      have uG:=hid xE
      have Eh:=abE.out.trans hf4
      have HL4:=hid hl4
      clear hd4 hf4 xE HVV hl4
      cases YB with
      | false=>
       have HF:=hid (HNX.out.1 uG.out)
       go_wp2_with fail
       go_ret
       exact⟨false,v4,S++S4,rfl,by rw[← List.append_assoc];exact HD4.out,Eh,by rw[List.length_append];have h2:=Vt.out;have h5:=HL4.out;omega,HF.out⟩
      | true=>
       have HN:=hid (HNX.out.2 S4 uG.out)
       go_wp2_with fail
       go_roundg (gk-1)
       case rel=>exact⟨0+1,R,a3,c3,v4,S++S4,by omega,by go_num,rfl,hid HR0.out,hid (by have h3:=HDd.out;omega),hid (by rw[← List.append_assoc];exact HD4.out),⟨by rw[List.length_append];have h2:=Vt.out;have h5:=HL4.out;omega⟩,Eh,hid (by have:=HN.out;simpa[Jy] using this)⟩
       case measure=>omega
     ·have ank:(0:Int)<(m:Int):=by omega
      go_wp2_with fail
      refine(fA _ db w0.heap.size _ v' (L++S) 44 44 rfl HT2.out (by rw[List.length_append];have h1:=HL.out;have h2:=Vt.out;omega) hz2).mono ?_;rintro e w3 ⟨rfl,v3,hd3,hf3⟩
      have yJ:=JR.trans hf3
      have HBW:=hid (show Below w0.heap.size w0 w3 from hb.trans (yJ.below hdb hz0))
      have HDW:=hid (show yH w3 db w0.heap.size (.slice la ll lc) v3 (L++(S++[44])) by rw[← List.append_assoc];exact hd3)
      have abE:=hid yJ
      obtain⟨S3,Ea⟩:∃ S3,Hid (S++[44]=S3):=⟨_,hid rfl⟩
      have aeK:S3.length=S.length+1:=by rw[← Ea.out];simp
      have anl:=hid aeK
      have ak6:S3.length≤S.length+1:=by omega
      rw[Ea.out] at HDW
      clear hd3 hf3 yJ aeK
      have HVV:=hid (HV.out w0 w3 db lo la ll lc v3 (.slice a2 V.length c2) (L++S3) V base HI.out Xq.out HE.out HBW.out hdb HDW.out (by have h3:=HDd.out;have h4:=vw.out;omega) ⟨by rw[List.length_append];have h1:=HL.out;have h2:=Vt.out;omega⟩)
      rw[← HDD.out] at HVV
      go_wp2_with fail
      refine HVV.out.mono ?_;rintro e w4 ⟨YB,v4,S4,rfl,hd4,hf4,hl4,xE⟩
      have HD4:=hid hd4
      have uG:=hid xE
      have Eh:=abE.out.trans hf4
      have HL4:=hid hl4
      clear hd4 hf4 xE HVV hl4
      cases YB with
      | false=>
       have HF:=hid (HNX.out.1 uG.out)
       go_wp2_with fail
       go_ret
       exact⟨false,v4,S3++S4,rfl,by rw[← List.append_assoc];exact HD4.out,Eh,by rw[List.length_append];have h2:=Vt.out;have h5:=HL4.out;omega,HF.out⟩
      | true=>
       have HN:=hid (HNX.out.2 S4 uG.out)
       go_wp2_with fail
       go_roundg (gk-1)
       case rel=>exact⟨m+1,R,a3,c3,v4,S3++S4,by omega,by go_num,rfl,hid HR0.out,hid (by have h3:=HDd.out;omega),hid (by rw[← List.append_assoc];exact HD4.out),⟨by rw[List.length_append];have h2:=Vt.out;have h5:=HL4.out;omega⟩,Eh,hid (by have:=HN.out;rw[show decide (m=0)=false by simp[hm0]] at this;rw[← Ea.out];simpa[Jy] using this)⟩
       case measure=>omega
theorem MO{X:List aO}{n:Nat}(hV:Vq X n)(hL:Vr X n)(w0 w:World)(db lo:Nat)(la:Option Addr)(ll lc:Nat)(v dv:Value)(L d:List UInt8)(f:bI)(dd:Int)(hdd:dd=(7:Int)-n)(hI:dK w0 lo (.slice la ll lc) X)(hd:pF w0 dv d)(hE:Env w0)(hb:Below w0.heap.size w0 w)(hdb:w0.heap.size≤db)(h:yH w db w0.heap.size (.slice la ll lc) v L)(hdl:d.length≤64)(hF:Fits L.length d.length):
  Calls Tryz.prog 259 #[.pointer (some ⟨db,0,none⟩),.agg #[.int .i64 f.number,.int .i64 f.numberAt,.string f.name,.int .i64 f.nameAt,.int .i64 f.shape,.string f.base,.int .i64 f.dG],dv,.int .i64 dd] w (jl (if f.shape=2 then(decP X n).2 f.base.toList d else(decP X n).1 f.base.toList d) w db w0.heap.size (.slice la ll lc) L (1000*(d.length+1))):=by
 subst hdd
 obtain⟨da,dc,hdv⟩:∃ a c,dv=.slice a d.length c:=hd.1.slice
 subst hdv
 by_cases h2:f.shape=2
 ·have h2B:((f.shape:Int)==2)=true:=by simp;omega
  rw[if_pos h2]
  have HC:=hid (fun w' (hb':Below w.heap.size w w')=>hL w0 w' db lo la ll lc v _ L d f.base hI hd hE (hb.trans (hb'.mono hb.size)) hdb (h.below hb') hdl hF)
  clear hI h hE hV hL hd hF
  go_enter func259,ntmps259
  go_wp2_with fail
  refine(HC.out _ ((Below.refl _ _).alloc (Nat.le_refl _) _)).mono ?_;intro e w1 h1
  have HP:=hid (h1.back ((Below.refl _ _).alloc (Nat.le_refl _) _))
  obtain⟨ok,v',S,rfl,_⟩:=h1
  go_wp2_with fail
  go_ret
  exact HP.out
 ·have h2B:((f.shape:Int)==2)=false:=by simp;omega
  rw[if_neg h2]
  have HC:=hid (fun w' (hb':Below w.heap.size w w')=>hV w0 w' db lo la ll lc v _ L d f.base hI hd hE (hb.trans (hb'.mono hb.size)) hdb (h.below hb') hdl hF)
  clear hI h hE hV hL hd hF
  go_enter func259,ntmps259
  go_wp2_with fail
  refine(HC.out _ ((Below.refl _ _).alloc (Nat.le_refl _) _)).mono ?_;intro e w1 h1
  have HP:=hid (h1.back ((Below.refl _ _).alloc (Nat.le_refl _) _))
  obtain⟨ok,v',S,rfl,_⟩:=h1
  go_wp2_with fail
  go_ret
  exact HP.out
def kN(X:List aO):Nat→List FD→List UInt8→rV
 | 0=>fun _ _=>none
 | n+1=>Yp (decP X n).1 (decP X n).2
theorem JU(X:List aO)(n:Nat):(decP X n).1=uF (tyP X) (kN X n):=by cases n<;>rfl
structure abG(fs:List bI):Prop where
 len:fs.length≤400
 num:∀ f∈fs,0≤f.number∧f.number≤99
 nm:∀ f∈fs,1≤f.name.size∧f.name.size≤400
 ne:fs.Pairwise fun f g=>f.number≠g.number
def abH(X:List aO)(n:Nat):Prop:=∀ (w0 w:World) (db lo:Nat) (la:Option Addr) (ll lc:Nat) (v dv:Value) (L d:List UInt8) (fv:Value) (fs:List bI),dK w0 lo (.slice la ll lc) X→pF w0 dv d→Env w0→Below w0.heap.size w0 w→w0.heap.size≤db→yH w db w0.heap.size (.slice la ll lc) v L→d.length≤64→Fits L.length d.length →
 w0.ownsRow lo 242 7 fv fs.length (fs.flatMap dI)→abG fs →
 Calls Tryz.prog 239 #[.pointer (some ⟨db,0,none⟩),fv,dv,.int .i64 ((7:Int)-n)] w (jl (kN X n (fs.map Ah) d) w db w0.heap.size (.slice la ll lc) L (1000*(d.length+1)))
theorem CB{X:List aO}{n:Nat}(hM:abH X n)(hX:OD X)(hN:∀ x∈X,x.it.fields.Pairwise fun f g=>f.number≠g.number):Vq X n:=by
 intro w0 w db lo la ll lc v dv L d base hI hd hE hb hdb h hdl hF
 obtain⟨dd,hdd⟩:∃ dd:Int,dd=(7:Int)-(n:Int):=⟨_,rfl⟩
 rw[← hdd]
 rw[JU]
 obtain⟨da,dc,hdv⟩:∃ a c,dv=.slice a d.length c:=hd.1.slice
 subst hdv
 have hz:=hb.size
 have HIw:=hid (hI.below hb)
 have HEw:=hid (hE.below hb)
 have Fe:=hid (hd.later hb)
 have e0:w.cell? ⟨db,0,none⟩=some (.slice la ll lc):=by
  obtain⟨p,_,hd⟩:=h.d
  exact hd.seg.cell (j:=0) rfl
 have HLn:=hid (show L.length≤800000000 by have:=hF.out;omega)
 have YD:d.length≤1000:=by omega
 have H:=hid h
 have HE:=hid hE
 have HI:=hid hI
 have HM:=hid hM
 have HDD:=hid hdd
 have HX:=hid hX
 have HD:=hid hd
 have HN:=hid hN
 clear h hE hI hM hdd hX hd hN
 cases hb1:(base.toList==[105,110,116]) with
 | true=>
  have HS:=hid (show uF (tyP X) (kN X n) base.toList d=(gX d).map (fun m=>Lib.itoa (rU m)) by unfold uF;rw[if_pos (by simpa[D9] using hb1)])
  go_enter func204,ntmps204
  go_wp2_with fail
  refine(G9 w db w0.heap.size _ v _ L d H.out Fe.out YD HEw.out (by have:=HLn.out;omega) hz).mono ?_;intro e w1 h1
  have HP:=hid (h1.turn HS.out (K':=1000*(d.length+1)) (by omega))
  obtain⟨ok,v',S,rfl,_⟩:=h1
  go_wp2_with fail
  go_ret
  exact HP.out
 | false=>
  cases hb2:(base.toList==[98,111,111,108]) with
  | true=>
   have HS:=hid (show uF (tyP X) (kN X n) base.toList d=yG ([ByteArray.mk #[102,97,108,115,101],ByteArray.mk #[116,114,117,101]].map ByteArray.toList) d by
    unfold uF;rw[if_neg (by simpa[D9] using hb1),if_pos (by simpa[zx] using hb2)]
    simp[ByteArray.toList_eq,oM])
   go_enter func204,ntmps204
   go_wp2_with fail
   have hw0:Below w.heap.size w (w.alloc (.cells #[.string (ByteArray.mk #[102,97,108,115,101]),.string (ByteArray.mk #[116,114,117,101])] 9)):=(Below.refl _ _).alloc (Nat.le_refl _) _
   refine(zF _ db w0.heap.size w.heap.size _ v _ _ L d [ByteArray.mk #[102,97,108,115,101],ByteArray.mk #[116,114,117,101]] (H.out.below hw0) (Fe.out.later hw0) YD (by have:=World.ownsRow_lit (base:=w.heap.size) (e:=9) (size:=1) w #[.string (ByteArray.mk #[102,97,108,115,101]),.string (ByteArray.mk #[116,114,117,101])] 2 (by simp) (by unfold maxLen;omega) rfl;simpa[jd] using this) (by simp) (by decide) (by have:=HLn.out;omega) (by simp;omega)).mono ?_
   intro e w1 h1
   have HP:=hid ((h1.back hw0).turn HS.out (K':=1000*(d.length+1)) (by omega))
   obtain⟨ok,v',S,rfl,_⟩:=h1
   go_wp2_with fail
   go_ret
   exact HP.out
  | false=>
   cases hb3:(base.toList==[116,101,120,116]) with
   | true=>
    have HS:=hid (show uF (tyP X) (kN X n) base.toList d=some (BL d) by unfold uF;rw[if_neg (by simpa[D9] using hb1),if_neg (by simpa[zx] using hb2),if_pos (by simpa[wText] using hb3)])
    have Xt:=hid (show (BL d).length≤1000*(d.length+1) by unfold BL;rw[List.length_cons,List.length_append,List.length_singleton];have:=Vm d;omega)
    unfold jl
    go_enter func204,ntmps204
    go_wp2_with fail
    refine(He w db w0.heap.size _ v _ L d H.out Fe.out YD HD.out.1.lt hdb (by have:=HLn.out;omega) hz).mono ?_;rintro e w1 ⟨rfl,v1,hd1,hf1⟩
    have HD1:=hid hd1
    have HF1:=hid hf1
    clear hd1 hf1
    go_wp2_with fail
    go_ret
    exact⟨true,v1,BL d,rfl,HD1.out,HF1.out,Xt.out,HS.out⟩
   | false=>
    have HS:=hid (show uF (tyP X) (kN X n) base.toList d=(match tyP X base.toList with | none=>none | some (.inl ns)=>yG ns d | some (.inr fs)=>kN X n fs d) by unfold uF;rw[if_neg (by simpa[D9] using hb1),if_neg (by simpa[zx] using hb2),if_neg (by simpa[wText] using hb3)];cases tyP X base.toList with | none=>rfl | some t=>cases t<;>rfl)
    go_enter func204,ntmps204
    go_wp2_with fail
    refine(rX _ lo _ X base HIw.out HX.out.nms HX.out.len).mono ?_;rintro e w1 ⟨zU,hT⟩
    rcases hT with⟨hneg,rfl⟩ | ⟨k,x,nn,hk,hx,hkd,hvf,hvn,rfl⟩
    ·have HSN:=hid (show uF (tyP X) (kN X n) base.toList d=none by
      rw[HS.out]
      have:tyP X base.toList=none:=by unfold tyP;split<;>simp[hneg]
      rw[this])
     clear hneg
     go_wp2_with fail
     go_ret
     have hba:Below w.heap.size w (w1.alloc (.cells #[.int .i64 0,.string ⟨#[]⟩,.int .i64 0,.slice none 0 0,.slice none 0 0,.string ⟨#[]⟩,.int .i64 0,.string ⟨#[]⟩,.int .i64 0] 116)):=zU.alloc zU.size _
     exact⟨false,v,[],rfl,by have:=H.out.below hba;simpa using this,DF.bG _ hba,by simp,HSN.out⟩
    ·have hxm:=List.mem_of_getElem? hx
     have hfl:=HX.out.fl x hxm
     have hnl:=HX.out.nl x hxm
     have HFO:=hid (HI.out.nest x hxm).f
     have Vh:=hid ((HIw.out.below zU).nest x hxm).n
     rw[hvf] at HFO
     rw[hvn] at Vh
     have EN:=hid (show abG x.it.fields from⟨hfl,HX.out.n x hxm,HX.out.s x hxm,HN.out x hxm⟩)
     have YE:=hid (HX.out.nn x hxm)
     have HTY:=hid (show tyP X base.toList=if x.it.kind=0 then some (.inr (x.it.fields.map Ah)) else some (.inl (x.it.names.map fun t=>t.text.toList)) by unfold tyP;rw[hk];simp only[Int.toNat_natCast,hx];rw[if_neg (by omega)])
     obtain⟨it,vf,vn⟩:=x
     obtain⟨kind,nm,fields,names,bs,an⟩:=it
     obtain⟨ifa,ifc,ina,inc,ibb,iba,iab,iaa⟩:=nn
     simp only at hkd hfl hnl HFO Vh EN YE HTY ⊢
     clear hk hx hxm hvf hvn
     have hba:Below w.heap.size w (w1.alloc (.cells #[.int .i64 kind,.string nm.text,.int .i64 nm.at_,.slice ifa fields.length ifc,.slice ina names.length inc,.string ibb,.int .i64 iba,.string iab,.int .i64 iaa] 116)):=zU.alloc zU.size _
     have YF:Below w1.heap.size w1 (w1.alloc (.cells #[.int .i64 kind,.string nm.text,.int .i64 nm.at_,.slice ifa fields.length ifc,.slice ina names.length inc,.string ibb,.int .i64 iba,.string iab,.int .i64 iaa] 116)):=(Below.refl _ _).alloc (Nat.le_refl _) _
     rcases hkd with rfl | rfl
     ·have Yo:=hid (show uF (tyP X) (kN X n) base.toList d=kN X n (fields.map Ah) d by rw[HS.out,HTY.out];rfl)
      go_wp2_with fail
      refine(HM.out w0 _ db lo la ll lc v _ L d _ fields HI.out HD.out HE.out (hb.trans (hba.mono hz)) hdb (H.out.below hba) hdl hF HFO.out EN.out |> fun z=>by rw[HDD.out];exact z:Calls _ _ _ _ _).mono ?_
      intro e w2 h2
      have HP:=hid ((h2.back hba).turn Yo.out (Nat.le_refl _))
      obtain⟨ok,v',S,rfl,_⟩:=h2
      go_wp2_with fail
      go_ret
      exact HP.out
     ·have Yo:=hid (show uF (tyP X) (kN X n) base.toList d=yG ((names.map fun t=>t.text).map ByteArray.toList) d by rw[HS.out,HTY.out];simp[List.map_map,Function.comp_def])
      go_wp2_with fail
      refine(zD _ lo _ _ _ _ _ _ _ _ _ _ _ _ names (aC Vh.out (fun g hg=>YF.block g (Vh.out.lt g hg).2)) hnl).mono ?_;rintro e w2 ⟨ca,cc,rfl,hown2,hb2⟩
      have MP:Below w.heap.size w w2:=hba.trans (hb2.mono hba.size)
      have Vu:=hid hown2
      clear hown2
      go_wp2_with fail
      refine(zF w2 db w0.heap.size _ _ v _ _ L d (names.map fun t=>t.text) (H.out.below MP) (Fe.out.later MP) YD (by have:=Vu.out;rw[List.length_map,List.map_map];exact this) (by rw[List.length_map];exact hnl) (fun q hq=>by obtain⟨y,hy,rfl⟩:=List.mem_map.1 hq;exact(YE.out y hy).2) (by have:=HLn.out;omega) (by have:=MP.size;omega)).mono ?_
      intro e w3 h3
      have HP:=hid ((h3.back MP).turn Yo.out (K':=1000*(d.length+1)) (by omega))
      obtain⟨ok,v',S,rfl,_⟩:=h3
      go_wp2_with fail
      go_ret
      exact HP.out
theorem Vw(l:List (Nat × Value))(k:Nat)(x:Nat × Value)(h:l[k]? = some x):((l.flatMap fD).drop (k*2)).take 2=fD x:=by
 induction l generalizing k with
 | nil=>simp at h
 | cons a r ih=>
  rw[List.flatMap_cons]
  cases k with
  | zero=>simp at h;subst h;simp[fD]
  | succ k=>
   simp at h
   rw[List.drop_append,List.drop_eq_nil_of_le (by simp[fD];omega),List.nil_append,show (k+1)*2-(fD a).length=k*2 from by simp[fD];omega]
   exact ih k h
theorem JV{w:World}{lo:Nat}{v:Value}{us:List (Nat × Value)}(h:w.ownsRow lo 356 2 v us.length (us.flatMap fD)){j:Nat}{x:Nat × Value}(hj:us[j]? = some x):∃ g c,v=.slice (some ⟨g,0,none⟩) us.length c∧lo≤g∧g<w.heap.size∧Seg w g 356 (j*2) (fD x):=by
 have hlt:=lQ hj
 obtain⟨g,c,hv,hg,hs⟩:=h.form (by omega)
 rw[hv] at h
 have:=(Af h).part (j*2) 2 (fD x) (Vw _ j x hj) rfl (by omega)
 exact⟨g,c,hv,hg,hs,by simpa using this⟩
def rY(us:List (Nat × Value))(m:Nat):Int:=match us.findIdx? (fun x=>x.1==m) with | some i=>i | none=>-1
theorem MQ{us:List (Nat × Value)}{m k:Nat}{x:Nat × Value}(hk:us[k]? = some x)(hm:(x.1==m)=true)(hall:∀ j y,j<k→us[j]? = some y→(y.1==m)=false):rY us m=k:=by
 have hlt:=lQ hk
 have e:us[k]=x:=by rw[List.getElem?_eq_getElem hlt] at hk;simpa using hk
 unfold rY
 have:us.findIdx? (fun x=>x.1==m)=some k:=by
  rw[List.findIdx?_eq_some_iff_getElem]
  refine⟨hlt,by rw[e];exact hm,fun j hj=>?_⟩
  have:=hall j us[j] hj (List.getElem?_eq_getElem (by omega))
  simp at this ⊢
  exact this
 rw[this]
theorem JW{us:List (Nat × Value)}{m:Nat}(hall:∀ j y,j<us.length→us[j]? = some y→(y.1==m)=false):rY us m = -1:=by
 unfold rY
 have:us.findIdx? (fun x=>x.1==m)=none:=by
  rw[List.findIdx?_eq_none_iff]
  intro x hx
  obtain⟨j,hj,rfl⟩:=List.getElem_of_mem hx
  exact hall j _ hj (List.getElem?_eq_getElem hj)
 rw[this]
theorem Ei(w:World)(n m:Nat)(pa:Option Addr)(pl pc fb:Nat)(hm:m≤99)(hc:w.cell? ⟨fb,0,none⟩=some (.int .i64 m))(hfb:fb<w.heap.size):
  Calls Tryz.prog 258 #[.agg #[.int .u64 n,.slice pa pl pc],.pointer (some ⟨fb,0,none⟩)] w fun e w'=>e=.returned (.bool (n==m))∧Below w.heap.size w w':=by
 have hwr:IntKind.u64.wrap (m:Int)=(m:Int):=by rw[IntKind.wrap_u64];omega
 have HB:=hid (show ((n:Int)==(m:Int))=(n==m) by rw[Bool.eq_iff_iff];simp;omega)
 go_enter func258,ntmps258
 go_wp2_with fail
 all_goals
  go_ret
  exact⟨bM (by first | exact HB.out | simp),(Below.refl _ _).alloc (Nat.le_refl _) _⟩
theorem JX(w:World)(lo:Nat)(pv:Value)(us:List (Nat × Value))(m fb:Nat)(h:w.ownsRow lo 356 2 pv us.length (us.flatMap fD))(hsl:∀ x∈us,∃ a l c,x.2=.slice a l c)(hl:us.length≤1000)(hm:m≤99)(hc:w.cell? ⟨fb,0,none⟩=some (.int .i64 m))(hfb:fb<w.heap.size):
  Calls Tryz.prog 257 #[pv,.func (Fn.func 258) #[] #[.pointer (some ⟨fb,0,none⟩)]] w fun e w'=>e=.returned (.int .i64 (rY us m))∧Below w.heap.size w w':=by
 obtain⟨la,lc,hlv⟩:∃ a c,pv=.slice a us.length c:=ay h
 subst hlv
 have H:=hid h
 have HSL:=hid hsl
 clear h hsl
 go_enter func257,ntmps257
 go_wp2_with fail
 go_loopg [5,8] us.length (fun gk t i wr=>∃ k:Nat,k+gk=us.length∧i=.int .i64 k∧Hid (∀ j y,j<k→us[j]? = some y→(y.1==m)=false)∧Below w.heap.size w wr)
 case atStart=>exact⟨0,by omega,rfl,hid (fun j y hj=>by omega),Below.refl _ _⟩
 case round=>
  obtain⟨k,hk,rfl,HA,hbel⟩:=hrel
  by_cases hlt:k<us.length
  ·obtain⟨x,hx⟩:∃ x,us[k]? = some x:=⟨us[k],List.getElem?_eq_getElem hlt⟩
   obtain⟨xa,xl,xc,hxs⟩:=HSL.out x (List.mem_of_getElem? hx)
   obtain⟨g,cap,hv,hgl,hgs,hs⟩:=JV (aC H.out (fun g hg=>hbel.block g (H.out.lt g hg).2)) hx
   obtain⟨rfl,rfl⟩:la=some ⟨g,0,none⟩∧lc=cap:=by simpa using hv
   obtain⟨xn,xv⟩:=x
   simp only at hxs
   subst hxs
   have c0:wr.cell? ⟨g,k*2,none⟩=some (.int .u64 xn):=hs.cell (j:=0) rfl
   have c1:wr.cell? ⟨g,k*2+1,none⟩=some (.slice xa xl xc):=hs.cell (j:=1) rfl
   have HX:=hid hx
   have hc':wr.cell? ⟨fb,0,none⟩=some (.int .i64 m):=by rw[hbel.cell hfb];exact hc
   have aie:fb<wr.heap.size:=Nat.lt_of_lt_of_le hfb hbel.size
   clear hs hv hx
   go_wp2_with fail
   refine(Ei _ xn m xa xl xc fb hm hc' aie).mono ?_;rintro e w1 ⟨rfl,hb1⟩
   have hb2:=hbel.trans (hb1.mono hbel.size)
   clear c0 c1 hb1 hc'
   cases hmm:(xn==m) with
   | false=>
    go_wp2_with fail
    go_roundg (gk-1)
    case rel=>exact⟨k+1,by omega,by go_num,hid (fun j y hj hy=>by
     rcases Nat.lt_or_ge j k with h | h
     ·exact HA.out j y h hy
     ·rw[show j=k from by omega,HX.out] at hy;simp at hy;subst hy;exact hmm),hb2⟩
    case measure=>omega
   | true=>
    have HF:=hid (MQ HX.out hmm HA.out)
    go_wp2_with fail
    go_ret
    exact⟨nK HF.out.symm,hb2⟩
  ·go_wp2_with fail
   go_ret
   exact⟨nK (JW (fun j y hj=>HA.out j y (by omega))).symm,hbel⟩
end Go.Proofs.YtolfcabodiphmaaGreatDoor

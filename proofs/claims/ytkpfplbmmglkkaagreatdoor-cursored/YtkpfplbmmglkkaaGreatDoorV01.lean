/- Unwrap: the payload of bytes that are one frame. -/
import Derived.Test.YtkpfplbmmglkkaaGreatDoorV00
import Derived.Laws.ResultCell
import Derived.Laws.IdiomRangeMap
import Derived.Shelf.Small.Strs
import Derived.Shelf.Slices.Turned
import Derived.Shelf.Strconv.Itoa4
import Derived.Shelf.SlicesE.Delete
import Derived.Shelf.Small.Wraps
import Derived.Shelf.Strconv.AtoiAll
import Derived.Shelf.Strconv.ParseIntPublic10
import Derived.Shelf.Pu.ParseUintPublic10
import Derived.Deep.MidRow
import Derived.Lib.AppendStr
import Derived.ProofKit
import Derived.OpenShut
import Derived.Carry
set_option linter.all false
set_option maxHeartbeats 4000000
set_option maxRecDepth 100000
namespace Go.Proofs.YtkpfplbmmglkkaaGreatDoor
open Go.Proofs.Tryz
open Go.RowKit
def J3(w:World)(F:List UInt8)(e:Ending)(w':World):Prop :=
 Below w.heap.size w w'∧match kH eQ F with
  | some P=>∃ a c,e=.returned (.tuple #[.slice a P.length c,.bool true])∧fG w' w.heap.size (.slice a P.length c) P
  | none=>e=.returned (.tuple #[.slice none 0 0,.bool false])
theorem Rd.CN{w:World}{b o:Nat}{L:List UInt8}(h:∀ j (hj:j<L.length),w.cell? ⟨b,o+j,none⟩=some (vB (L[j].toNat:Int)))(i n c':Nat)(hi:i+n≤L.length):Rd w (.slice (some ⟨b,o+i,none⟩) n c') ((L.drop i).take n):=by
 have hlen:((L.drop i).take n).length=n:=by simp;omega
 refine Or.inr ⟨⟨b,o+i,none⟩,c',by rw[hlen],fun j u hu=>?_⟩
 have hj:j<n:=by
  rcases Nat.lt_or_ge j n with h | h
  ·exact h
  ·rw[List.getElem?_eq_none (by simp;omega)] at hu;cases hu
 rw[dF _ _ rfl];have h1:=h (i+j) (by omega)
 have e:((L.drop i).take n)[j]? = some L[i+j]:=by
  rw[List.getElem?_take_of_lt hj,List.getElem?_drop,List.getElem?_eq_getElem (by omega)]
 rw[List.getElem?_map,e] at hu;simp at hu;subst hu;rw[← Nat.add_assoc] at h1;exact h1
theorem J4(w:World)(a:Option Addr)(c:Nat)(F:List UInt8)(h:Rd w (.slice a F.length c) F)(hl:F.length≤maxLen)(zz:F.length≤c):
  aT 196 #[.slice a F.length c] w (J3 w F):=by
 unfold maxLen at hl;have H:=U h;clear h
 by_cases bX:5≤F.length∧QB (F.length-5)=true
 ·have hb:=ox.1 bX.2
  obtain⟨b,o,c',hv,zA,hc⟩:=H.o.at (by omega);obtain⟨rfl,rfl⟩:a=some (aj b o)∧c=c':=by simpa using hv
  have hRd:=Rd.CN hc 1 (F.length-5) (c-1) (by omega);have hi:(decide (1≤((F.length-5:Nat):Int))&&decide (((F.length-5:Nat):Int)≤120))=true:=by simp;omega
  have hn:F.length-5≤120:=hb.2;have CK:1≤F.length-5:=hb.1;have hFl:F.length=(F.length-5)+5:=by omega
  have HP:=U (show ((F.drop 1).take (F.length-5)).length=F.length-5 by simp;omega)
  have HU:=U (show kH eQ F=if cd eQ ((F.drop 1).take (F.length-5))=F then some ((F.drop 1).take (F.length-5)) else none by
   unfold kH;simp[bX.1,bX.2])
  generalize (F.drop 1).take (F.length-5)=P at *;have Yo:=U hRd;clear hRd hv;generalize F.length-5=n at *;have HFl:=U hFl;rw[hFl];have gY:1+(n:Int)≤(c:Int):=by omega
  have JF:0≤1+(n:Int):=by omega
  have il:¬ c=1:=by omega
  clear hFl hl bX hb hc zz
  go_enter func196,ntmps196
  go_wp2_with fail
  rw[show (n:Int)+5-1-4=(n:Int) by omega];refine(mL _ _).mono ?_;rintro e w1 ⟨rfl,rfl⟩;rw[hi]
  go_wp2_with fail
  have hz:(1+(n:Int)).toNat-1=n:=by omega
  first | rw[hz] | skip
  refine(zy _ _ P (by first | exact Yo.o | (rw[HP.o];exact Yo.o)) (by rw[HP.o];omega) (by rw[HP.o];omega)).mono ?_;rintro e w2 ⟨a2,c2,rfl,cz,qf⟩;have gX:=U cz;clear cz;have hPl:P.length≤maxLen:=by rw[HP.o];unfold maxLen;omega
  have ael:QB P.length=true:=by rw[HP.o];exact ox.2 ⟨CK,hn⟩
  have UZ:=U ael;clear ael
  go_wp2_with fail
  refine(F6 _ _ P gX.o.rd hPl).mono ?_;rintro e w3 ⟨F7,hq⟩;rw[UZ.o] at hq;obtain⟨a3,c3,rfl,gz⟩:=hq;have lE:=U gz;have J5:=qf.trans (F7.mono qf.size);have HF3:=U (show Rd w3 (.slice (some (aj b o)) F.length c) F from H.o.gr J5);have ajB:=U (gX.o.same F7);clear gz;rw[HFl.o] at HF3
  go_wp2_with fail
  refine(zx _ _ _ (cd eQ P) F lE.o.rd HF3.o).mono ?_;rintro e w4 ⟨rfl,rfl⟩
  by_cases hE:cd eQ P=F
  ·have HE:=U hE
   have hd:decide (cd eQ P=F)=true:=by simp[hE]
   rw[hd];clear hE hd
   go_wp2_with fail
   go_ret2
   refine⟨J5,?_⟩;rw[HU.o,if_pos HE.o];exact⟨a2,c2,rfl,ajB.o⟩
  ·have HE:=U hE
   have hd:decide (cd eQ P=F)=false:=by simp[hE]
   rw[hd];clear hE hd
   go_wp2_with fail
   go_ret2
   refine⟨J5,?_⟩;rw[HU.o,if_neg HE.o];rfl
 ·have HU:=U (show kH eQ F=none by
   unfold kH;rw[if_neg];intro h;exact bX ⟨h.1,h.2.1⟩)
  have hi:(decide (1≤(F.length:Int)-1-4)&&decide ((F.length:Int)-1-4≤120))=false:=by
   rcases Nat.lt_or_ge F.length 5 with h5 | h5
   ·simp;omega
   ·have:¬ QB (F.length-5)=true:=fun h=>bX ⟨h5,h⟩
    rw[ox] at this;simp;omega
  clear bX
  go_enter func196,ntmps196
  go_wp2_with fail
  refine(mL _ _).mono ?_;rintro e w1 ⟨rfl,rfl⟩;rw[hi]
  go_wp2_with fail
  go_ret2
  refine⟨Below.refl _ _,?_⟩;rw[HU.o];rfl
open Go.Conc
theorem lX(w:World)(b:Nat)(v0 v1 v2 v3 v4 v5:Value)(h:aZ w b 125 [v0,v1,v2,v3,v4,v5]):(loadVar 125 (aj b 0)).run Tryz.prog w=.ok (.agg #[v0,v1,v2,v3,v4,v5]) w:=by
 have e0:=h.ce 0 rfl;have e1:=h.ce 1 rfl;have e2:=h.ce 2 rfl;have e3:=h.ce 3 rfl;have e4:=h.ce 4 rfl;have e5:=h.ce 5 rfl;simp[go_sem,e0,e1,e2,e3,e4,e5]
abbrev ZH(au:Value)(ms mo:Nat):List Value:=[au,.map (some ms),.pointer none,.int .u64 0,.slice none 0 0,.int .i64 0,.map (some mo)]
def pJ(w:World)(m:Nat):Prop:=w.heap[m]? = some (.map #[] 0)
theorem pJ.lt{w:World}{m:Nat}(h:pJ w m):m<w.heap.size:=(Array.getElem?_eq_some_iff.1 h).1
theorem pJ.dW{F:Nat→Prop}{w w':World}{m:Nat}(h:pJ w m)(hc:aQ F w w')(hf:¬ F m):pJ w' m:=(hc.block m h.lt hf).trans h
theorem F8(w:World):(binOp .eql 87 (.pointer none) (.pointer none)).run Tryz.prog w=.ok (.bool true) w:=by
 have h1:∀ d:Nat,(Op.equalIn (d+1) 87 (.pointer none) (.pointer none)).run Tryz.prog w=.ok true w:=fun d=>by simp[Op.equalIn,run_underlying underlying87]
 have h2:(Op.equal 87 (.pointer none) (.pointer none)).run Tryz.prog w=.ok true w:=h1 9999;simp[binOp,h2]
theorem rZ(w:World)(b:Nat)(v0 v1 v2:Value)(h:aZ w b 139 [v0,v1,v2]):(loadVar 139 (aj b 0)).run Tryz.prog w=.ok (.agg #[v0,v1,v2]) w:=by
 have e0:=h.ce 0 rfl;have e1:=h.ce 1 rfl;have e2:=h.ce 2 rfl;simp[go_sem,e0,e1,e2]
def aJ(b:Nat):Value:=.pointer (some ⟨b,0,none⟩)
def rH(w:World)(lo:Nat)(T:TypeId)(v:Value)(Bs:List Nat):Prop:=w.ownsRow lo T 1 v Bs.length (Bs.map aJ)
theorem rH.slice{w:World}{lo:Nat}{T:TypeId}{v:Value}{Bs:List Nat}(h:rH w lo T v Bs):∃ a c,v=.slice a Bs.length c:=ax h
theorem rH.cell{w:World}{lo:Nat}{T:TypeId}{v:Value}{Bs:List Nat}(h:rH w lo T v Bs)(h0:0<Bs.length):∃ g c,v=.slice (some (aj g 0)) Bs.length c∧lo≤g∧g<w.heap.size∧∀ i (hi:i<Bs.length),w.cell? (aj g i)=some (aJ Bs[i]):=by
 rcases h.2 with⟨_,e⟩ | ⟨g,cap,cur,hv,r⟩
 ·omega
 ·have hl:=h.lt g (by rw[hv];rfl)
  refine⟨g,cap,hv,hl.1,hl.2,fun i hi=>?_⟩;have:=h.cells (g:=g) (by rw[hv];rfl) i (aJ Bs[i]) (by simp[List.getElem?_eq_getElem hi]);rw[dF _ _ rfl] at this;simpa using this
theorem rH.below{w w':World}{lo:Nat}{T:TypeId}{v:Value}{Bs:List Nat}(h:rH w lo T v Bs)(hb:Below w.heap.size w w'):rH w' lo T v Bs:=aH h (fun g hg=>hb.block g (h.lt g hg).2)
def yM(n:Nat)(f:Nat→Bool)(z:Int):Prop:=(∃ k:Nat,k<n∧f k=true∧(∀ j,j<k→f j=false)∧z=k)∨((∀ j,j<n→f j=false)∧z = -1)
theorem VC(F C:Nat)(T:TypeId)(hF:(F=96∧C=97∧T=100)∨(F=125∧C=126∧T=126)∨(F=125∧C=254∧T=126)∨(F=260∧C=261∧T=158)∨(F=260∧C=245∧T=158))(w:World)(lo:Nat)(v:Value)(Bs:List Nat)(cb:Nat)(f:Nat→Bool)(h:rH w lo T v Bs)(hl:Bs.length≤1000000)
  (tZ:∀ wr,Below w.heap.size w wr→∀ i (hi:i<Bs.length),aT C #[aJ Bs[i],aM cb] wr (fun e w'=>e=.returned (.bool (f i))∧Below wr.heap.size wr w')) :
  aT F #[v,.func (Fn.func C) #[] #[aM cb]] w (fun e w'=>∃ z:Int,e=.returned (vI z)∧yM Bs.length f z∧Below w.heap.size w w'):=by
 rcases hF with⟨rfl,rfl,rfl⟩ | ⟨rfl,rfl,rfl⟩ | ⟨rfl,rfl,rfl⟩ | ⟨rfl,rfl,rfl⟩ | ⟨rfl,rfl,rfl⟩
 all_goals
  obtain⟨la,lc,rfl⟩:=h.slice;have H:=U h;have HC:=U tZ;clear h tZ
  first | go_enter func96,ntmps96 | go_enter func125,ntmps125 | go_enter func260,ntmps260
  go_wp2_with fail
  go_loopg [5,8] Bs.length (fun gk t i wr=>∃ k:Nat,k+gk=Bs.length∧i=.int .i64 k∧Hid (∀ j,j<k→f j=false)∧Below w.heap.size w wr)
  case atStart=>exact⟨0,by omega,rfl,U (fun j hj=>by omega),Below.refl _ _⟩
  case round=>
   obtain⟨k,hk,rfl,HA,bi⟩:=hrel
   by_cases bC:k<Bs.length
   ·obtain⟨g,cap,hv,di,xT,aK⟩:=H.o.cell (by omega)
    obtain⟨rfl,rfl⟩:la=some (aj g 0)∧lc=cap:=by simpa using hv
    have JE:wr.cell? (aj g k)=some (aJ Bs[k]):=(bi.cell (p:=(aj g k)) xT).trans (aK k bC);unfold aJ at JE;have ej:(k:Int)<(Bs.length:Int):=by omega
    clear hv aK
    go_wp2_with fail
    refine(HC.o _ bi k bC).mono ?_;rintro e w1 ⟨rfl,aA⟩;have aW:=bi.trans (aA.mono bi.size);clear aA JE
    cases hm:f k with
    | false=>
     go_wp2_with fail
     go_roundg (gk-1)
     case rel=>exact⟨k+1,by omega,by go_num,U (fun j hj=>by
      rcases Nat.lt_or_ge j k with h | h
      ·exact HA.o j h
      ·rw[show j=k from by omega];exact hm),aW⟩
     case measure=>omega
    | true=>
     go_wp2_with fail
     go_ret
     exact⟨k,rfl,Or.inl ⟨k,bC,hm,HA.o,rfl⟩,aW⟩
   ·have ej:¬ (k:Int)<(Bs.length:Int):=by omega
    go_wp2_with fail
    go_ret
    exact⟨-1,rfl,Or.inr ⟨fun j hj=>HA.o j (by omega),rfl⟩,bi⟩
open Go.Lib Go.Shelf Go.Sort
def zB:Ren:=⟨fun | 161=>185 | 231=>221 | 227=>222 | 233=>223 | 235=>224 | 228=>249 | 197=>250 | 151=>251 | 260=>264 | 152=>265 | 137=>226 | 119=>273 | 224=>274 | 225=>275 | 217=>252 | 266=>266 | n=>n,fun | 9=>9 | 4=>4 | 3=>3 | 5=>5 | 117=>305 | 116=>304 | 0=>0 | 124=>308 | 105=>339 | 21=>21 | 119=>360 | 46=>237 | 139=>363 | 138=>362 | n=>n,fun | 3=>5 | 4=>6 | n=>n⟩
theorem J6:Lays.n161 Tryz.prog zB:=by repeat' (first | kernel_rfl | (intro;kernel_rfl) | constructor)
def zC:Ren:=⟨fun | 137=>226 | 217=>252 | 266=>266 | n=>n,fun | 9=>9 | 5=>5 | 3=>3 | n=>n,fun | n=>n⟩
theorem J7:Lays.n137 Tryz.prog zC:=by repeat' (first | kernel_rfl | (intro;kernel_rfl) | constructor)
theorem qg(s:ByteArray)(c:Int)(w:World):
  Calls Tryz.prog 226 #[.string s,.int .u8 c] w fun e w'=>e=.returned (.int .i64 (Lib.indexByte s.data.toList c.toNat.toUInt8))∧w'=w:=Any.strings_IndexByte J7 s c w
def zD:Ren:=⟨fun | 103=>187 | 210=>225 | 206=>159 | n=>n,fun | 9=>9 | 4=>4 | 24=>282 | 3=>3 | n=>n,fun | n=>n⟩
theorem J8:Lays.n103 Tryz.prog zD:=by repeat' (first | kernel_rfl | (intro;kernel_rfl) | constructor)
theorem qh(s p:ByteArray)(w:World):
  Calls Tryz.prog 187 #[.string s,.string p] w fun e w'=>e=.returned (.tuple #[.string ⟨(Lib.trimPrefix s.data.toList p.data.toList).toArray⟩,.bool (Lib.hasPrefix s.data.toList p.data.toList)])∧w'=w:=Any.strings_CutPrefix J8 s p w
def zE:Ren:=⟨fun | 283=>110 | n=>n,fun | 3=>3 | 9=>9 | 4=>4 | n=>n,fun | n=>n⟩
theorem J9:Lays.n283 Tryz.prog zE:=by repeat' (first | kernel_rfl | (intro;kernel_rfl) | constructor)
theorem mD(i:Nat)(h:i<100)(w:World):
  Calls Tryz.prog 110 #[.int .i64 i] w fun e w'=>e=.returned (.string ⟨(Lib.decDigits i).toArray⟩)∧w'=w:=Any.internal_strconv_small J9 i h w
def xU:Ren:=⟨fun | 284=>111 | 129=>155 | 317=>154 | 318=>156 | n=>n,fun | 53=>52 | 3=>3 | 212=>254 | 0=>0 | 4=>4 | 46=>237 | 5=>5 | 9=>9 | n=>n,fun | 17=>0 | n=>n⟩
theorem F9:LaysM.n284 Tryz.prog xU:=by repeat' (first | kernel_rfl | (intro;kernel_rfl) | constructor)
theorem kQ(u:Nat)(h1:1≤u)(h2:u<18446744073709551616)(w:World)(Ee:Lib.TabIs Tryz.prog w "internal/strconv.uint64pow10" .u64 Lib.pow10Tab):
  Calls Tryz.prog 111 #[.int .u64 u] w fun e w'=>e=.returned (.int .i64 (Lib.nDigits u))∧w'=w:=Any.internal_strconv_numDigits F9 u h1 h2 w Ee
def zF:Ren:=⟨fun | 285=>112 | n=>n,fun | 37=>103 | 53=>52 | 3=>3 | 4=>4 | 51=>255 | 9=>9 | 5=>5 | 0=>0 | n=>n,fun | n=>n⟩
theorem Ka:Lays.n285 Tryz.prog zF:=by repeat' (first | kernel_rfl | (intro;kernel_rfl) | constructor)
theorem jw(ap off cap:Nat)(u:Nat)(d:Array UInt8)(w:World)(hH:Holds (fun(b:UInt8)=>Value.int .u8 (b.toNat:Int)) w ap off d)(hu:u<10 ^ d.size)(Kb:u<18446744073709551616)(mI:d.size<4611686018427387904):
  Calls Tryz.prog 112 #[.slice (some ⟨ap,off,none⟩) d.size cap,.int .u64 u] w fun e w'=>
   e=.returned (.tuple #[])∧∃ (n v':Nat) (dk:Array UInt8),w'=(putRow (fun(b:UInt8)=>Value.int .u8 (b.toNat:Int)) w ap off dk).drewN n∧FmtInv d.size u 0 v' dk:=Any.internal_strconv_formatBase10 Ka ap off cap u d w hH hu Kb mI
def xV:Ren:=⟨fun | 171=>30 | 243=>49 | 246=>74 | 283=>110 | 284=>111 | 285=>112 | 286=>113 | 129=>155 | 317=>154 | 318=>156 | 319=>157 | 320=>158 | 337=>192 | 338=>193 | n=>n,fun | 3=>3 | 9=>9 | 2=>2 | 4=>4 | 171=>193 | 0=>0 | 53=>52 | 37=>103 | 5=>5 | 173=>196 | 212=>254 | 51=>255 | 20=>20 | 213=>256 | 46=>237 | 232=>310 | 233=>311 | n=>n,fun | 17=>0 | 18=>3 | 19=>4 | n=>n⟩
theorem Ga:LaysM.n171 Tryz.prog xV:=by repeat' (first | kernel_rfl | (intro;kernel_rfl) | constructor)
theorem xW(n:Int)(h0:-9223372036854775808≤n)(h1:n≤9223372036854775807)(w:World)(Ee:Lib.TabIs Tryz.prog w "internal/strconv.uint64pow10" .u64 Lib.pow10Tab):
  Calls Tryz.prog 30 #[.int .i64 n] w fun e w'=>e=.returned (.string ⟨(Lib.itoa n).toArray⟩)∧∃ k os,w'=grow (w.drewN k) os:=Any.strconv_Itoa Ga n h0 h1 w Ee
def xX:Ren:=⟨fun | 173=>146 | 246=>74 | 283=>110 | 284=>111 | 285=>112 | 286=>113 | 129=>155 | 317=>154 | 318=>156 | 319=>157 | 320=>158 | 337=>192 | 338=>193 | n=>n,fun | 2=>2 | 3=>3 | 9=>9 | 4=>4 | 171=>193 | 0=>0 | 53=>52 | 37=>103 | 5=>5 | 173=>196 | 212=>254 | 51=>255 | 20=>20 | 213=>256 | 46=>237 | 232=>310 | 233=>311 | n=>n,fun | 17=>0 | 18=>3 | 19=>4 | n=>n⟩
theorem Gb:LaysM.n173 Tryz.prog xX:=by repeat' (first | kernel_rfl | (intro;kernel_rfl) | constructor)
theorem fu(n:Int)(h0:-9223372036854775808≤n)(h1:n≤9223372036854775807)(w:World)(Ee:Lib.TabIs Tryz.prog w "internal/strconv.uint64pow10" .u64 Lib.pow10Tab):
  Calls Tryz.prog 146 #[.int .i64 n,.int .i64 10] w fun e w'=>e=.returned (.string ⟨(Lib.itoa n).toArray⟩)∧∃ k os,w'=grow (w.drewN k) os:=Any.strconv_FormatInt_10 Gb n h0 h1 w Ee
def xY:Ren:=⟨fun | 172=>263 | 244=>272 | 245=>116 | 247=>186 | 279=>162 | 280=>163 | 281=>164 | 282=>165 | 287=>115 | 316=>194 | 171=>30 | 205=>195 | 321=>160 | 322=>161 | 243=>49 | 246=>74 | 283=>110 | 284=>111 | 285=>112 | 286=>113 | 129=>155 | 317=>154 | 318=>156 | 319=>157 | 320=>158 | 337=>192 | 338=>193 | n=>n,fun | 9=>9 | 3=>3 | 75=>167 | 76=>352 | 4=>4 | 5=>5 | 167=>259 | 37=>103 | 0=>0 | 85=>235 | 2=>2 | 168=>261 | 53=>52 | 175=>168 | 46=>237 | 210=>287 | 127=>312 | 145=>315 | 143=>313 | 21=>21 | 171=>193 | 173=>196 | 212=>254 | 51=>255 | 20=>20 | 213=>256 | 232=>310 | 233=>311 | 80=>349 | n=>n,fun | 15=>1 | 16=>2 | 17=>0 | 18=>3 | 19=>4 | n=>n⟩
theorem qi:LaysC.n172 Tryz.prog xY:=by repeat' (first | kernel_rfl | (intro;kernel_rfl) | constructor)
theorem lY(s:ByteArray)(Rg:s.size≤9223372036854775806)(v:Int)(h:Lib.atoiAll s.data.toList=.ok v)(w:World):
  Calls Tryz.prog 263 #[.string s] w fun e w'=>e=.returned (.tuple #[.int .i64 v,.nilIface])∧(w'=w∨∃ t,w'=Lib.bytesWorld w 5 t):=Any.strconv_Atoi_ok qi s Rg v h w
theorem jx(s:ByteArray)(zG:s.size≤281474976710656)(h:(∀ v,Lib.atoiAll s.data.toList ≠ .ok v) ∧ Lib.atoiAll s.data.toList ≠ .range)(ev:Value)(w:World)(hv:w.cell? ⟨1,0,none⟩=some ev)(Rh:ev=.nilIface∨∃ te pe,ev=.iface te pe):
  Calls Tryz.prog 263 #[.string s] w fun e w'=>∃ N,e=.returned (.tuple #[.int .i64 (0),.iface 261 (.pointer (some ⟨N,0,none⟩))])∧w.heap.size≤N∧w'.heap[N]? = some (.cells #[.string ⟨#[65,116,111,105]⟩,.string s,ev] 287 (0,0))∧Below w.heap.size w w':= by
  cases e:Lib.atoiAll s.data.toList with
  | ok v => exact absurd e (h.1 v)
  | range => exact absurd e h.2
  | _ => exact Any.strconv_Atoi_syntax qi s zG e ev w hv Rh
theorem jZ(s:ByteArray)(zG:s.size≤281474976710656)(h:Lib.atoiAll s.data.toList=.range)(ev:Value)(w:World)(hv:w.cell? ⟨2,0,none⟩=some ev)(Rh:ev=.nilIface∨∃ te pe,ev=.iface te pe):
  Calls Tryz.prog 263 #[.string s] w fun e w'=>∃ N,e=.returned (.tuple #[.int .i64 (Lib.atoiSat s.data.toList),.iface 261 (.pointer (some ⟨N,0,none⟩))])∧w.heap.size≤N∧w'.heap[N]? = some (.cells #[.string ⟨#[65,116,111,105]⟩,.string s,ev] 287 (0,0))∧Below w.heap.size w w':=Any.strconv_Atoi_range qi s zG h ev w hv Rh
def xZ:Ren:=⟨fun | 174=>145 | 247=>186 | 245=>116 | 287=>115 | 279=>162 | 280=>163 | 281=>164 | 282=>165 | 321=>160 | 322=>161 | 316=>194 | 171=>30 | 205=>195 | 243=>49 | 246=>74 | 283=>110 | 284=>111 | 285=>112 | 286=>113 | 129=>155 | 317=>154 | 318=>156 | 319=>157 | 320=>158 | 337=>192 | 338=>193 | n=>n,fun | 9=>9 | 3=>3 | 2=>2 | 75=>167 | 85=>235 | 4=>4 | 167=>259 | 5=>5 | 53=>52 | 175=>168 | 46=>237 | 168=>261 | 37=>103 | 0=>0 | 210=>287 | 21=>21 | 127=>312 | 145=>315 | 143=>313 | 171=>193 | 173=>196 | 212=>254 | 51=>255 | 20=>20 | 213=>256 | 232=>310 | 233=>311 | 80=>349 | n=>n,fun | 15=>1 | 16=>2 | 17=>0 | 18=>3 | 19=>4 | n=>n⟩
theorem qj:LaysC.n174 Tryz.prog xZ:=by repeat' (first | kernel_rfl | (intro;kernel_rfl) | constructor)
theorem kw(s:ByteArray)(Rg:s.size≤9223372036854775806)(v:Int)(h:Lib.parseIntB 64 s.data.toList=.ok v)(w:World):
  Calls Tryz.prog 145 #[.string s,.int .i64 10,.int .i64 64] w fun e w'=>e=.returned (.tuple #[.int .i64 v,.nilIface])∧(w'=w∨∃ t,w'=Lib.bytesWorld w 5 t):=Any.strconv_ParseInt_10_at64_ok qj s Rg v h w
theorem iW(s:ByteArray)(zG:s.size≤281474976710656)(h:(∀ v,Lib.parseIntB 64 s.data.toList ≠ .ok v) ∧ Lib.parseIntB 64 s.data.toList ≠ .range)(ev:Value)(w:World)(hv:w.cell? ⟨1,0,none⟩=some ev)(Rh:ev=.nilIface∨∃ te pe,ev=.iface te pe):
  Calls Tryz.prog 145 #[.string s,.int .i64 10,.int .i64 64] w fun e w'=>∃ N,e=.returned (.tuple #[.int .i64 (0),.iface 261 (.pointer (some ⟨N,0,none⟩))])∧w.heap.size≤N∧w'.heap[N]? = some (.cells #[.string ⟨#[80,97,114,115,101,73,110,116]⟩,.string s,ev] 287 (0,0))∧Below w.heap.size w w':= by
  cases e:Lib.parseIntB 64 s.data.toList with
  | ok v => exact absurd e (h.1 v)
  | range => exact absurd e h.2
  | _ => exact Any.strconv_ParseInt_10_at64_syntax qj s zG e ev w hv Rh
theorem jl(s:ByteArray)(zG:s.size≤281474976710656)(h:Lib.parseIntB 64 s.data.toList=.range)(ev:Value)(w:World)(hv:w.cell? ⟨2,0,none⟩=some ev)(Rh:ev=.nilIface∨∃ te pe,ev=.iface te pe):
  Calls Tryz.prog 145 #[.string s,.int .i64 10,.int .i64 64] w fun e w'=>∃ N,e=.returned (.tuple #[.int .i64 (Lib.intSat 64 s.data.toList),.iface 261 (.pointer (some ⟨N,0,none⟩))])∧w.heap.size≤N∧w'.heap[N]? = some (.cells #[.string ⟨#[80,97,114,115,101,73,110,116]⟩,.string s,ev] 287 (0,0))∧Below w.heap.size w w':=Any.strconv_ParseInt_10_at64_range qj s zG h ev w hv Rh
def yb:Ren:=⟨fun | 14=>78 | 16=>115 | 17=>116 | 19=>160 | 20=>161 | 21=>162 | 22=>163 | 23=>164 | 24=>165 | 25=>194 | 27=>30 | 26=>195 | 28=>49 | 29=>74 | 30=>110 | 31=>111 | 32=>112 | 33=>113 | 35=>155 | 34=>154 | 36=>156 | 37=>157 | 38=>158 | 39=>192 | 40=>193 | n=>n,fun | 9=>9 | 3=>3 | 22=>52 | 24=>167 | 25=>168 | 4=>4 | 34=>259 | 5=>5 | 36=>237 | 37=>103 | 0=>0 | 39=>261 | 21=>21 | 44=>287 | 47=>312 | 50=>315 | 48=>313 | 2=>2 | 52=>193 | 55=>196 | 59=>254 | 60=>255 | 20=>20 | 61=>256 | 65=>310 | 66=>311 | 67=>349 | n=>n,fun | 0=>1 | 1=>2 | 2=>0 | 3=>3 | 4=>4 | n=>n⟩
theorem ql:LaysPu.n14 Tryz.prog yb:=by repeat' (first | kernel_rfl | (intro;kernel_rfl) | constructor)
theorem jT(s:ByteArray)(Rg:s.size≤9223372036854775806)(u:Nat)(h:Lib.parseUintB 64 s.data.toList=.ok u)(w:World):
  Calls Tryz.prog 78 #[.string s,.int .i64 10,.int .i64 64] w fun e w'=>e=.returned (.tuple #[.int .u64 u,.nilIface])∧(w'=w∨w'=Lib.bytesWorld w 5 s):=Any.strconv_ParseUint_10_at64_ok ql s Rg u h w
theorem iL(s:ByteArray)(zG:s.size≤281474976710656)(h:(∀ v,Lib.parseUintB 64 s.data.toList ≠ .ok v) ∧ Lib.parseUintB 64 s.data.toList ≠ .range)(ev:Value)(w:World)(hv:w.cell? ⟨1,0,none⟩=some ev)(Rh:ev=.nilIface∨∃ te pe,ev=.iface te pe):
  Calls Tryz.prog 78 #[.string s,.int .i64 10,.int .i64 64] w fun e w'=>∃ N,e=.returned (.tuple #[.int .u64 0,.iface 261 (.pointer (some ⟨N,0,none⟩))])∧w.heap.size≤N∧w'.heap[N]? = some (.cells #[.string ⟨#[80,97,114,115,101,85,105,110,116]⟩,.string s,ev] 287 (0,0))∧Below w.heap.size w w':= by
  cases e:Lib.parseUintB 64 s.data.toList with
  | ok v => exact absurd e (h.1 v)
  | range => exact absurd e h.2
  | _ => exact Any.strconv_ParseUint_10_at64_syntax ql s zG e ev w hv Rh
theorem iX(s:ByteArray)(zG:s.size≤281474976710656)(h:Lib.parseUintB 64 s.data.toList=.range)(ev:Value)(w:World)(hv:w.cell? ⟨2,0,none⟩=some ev)(Rh:ev=.nilIface∨∃ te pe,ev=.iface te pe):
  Calls Tryz.prog 78 #[.string s,.int .i64 10,.int .i64 64] w fun e w'=>∃ N,e=.returned (.tuple #[.int .u64 18446744073709551615,.iface 261 (.pointer (some ⟨N,0,none⟩))])∧w.heap.size≤N∧w'.heap[N]? = some (.cells #[.string ⟨#[80,97,114,115,101,85,105,110,116]⟩,.string s,ev] 287 (0,0))∧Below w.heap.size w w':=Any.strconv_ParseUint_10_at64_range ql s zG h ev w hv Rh
def zH:Ren:=⟨fun | 101=>77 | 208=>114 | 206=>159 | n=>n,fun | 9=>9 | 4=>4 | 3=>3 | n=>n,fun | n=>n⟩
theorem Kc:Lays.n101 Tryz.prog zH:=by repeat' (first | kernel_rfl | (intro;kernel_rfl) | constructor)
theorem pK(s p:ByteArray)(w:World):
  Calls Tryz.prog 77 #[.string s,.string p] w fun e w'=>e=.returned (.string ⟨(Lib.trimPrefix s.data.toList p.data.toList).toArray⟩)∧w'=w:=Any.strings_TrimPrefix Kc s p w
def zI:Ren:=⟨fun | 109=>148 | n=>n,fun | 31=>31 | 9=>9 | 3=>3 | 0=>0 | 4=>4 | n=>n,fun | n=>n⟩
theorem zJ:Lays.n109 Tryz.prog zI:=by repeat' (first | kernel_rfl | (intro;kernel_rfl) | constructor)
theorem oy(b off n c:Nat)(zs:List ByteArray)(x:ByteArray)(w:World)(hz:n≤zs.length)(Ke:n≤9223372036854775807)(hc:∀ j,j<zs.length→w.cell? ⟨b,off+j,none⟩=some (.string (zs.getD j ByteArray.empty))):
  Calls Tryz.prog 148 #[.slice (some ⟨b,off,none⟩) n c,.string x] w fun e w'=>e=.returned (.int .i64 (Lib.idxOfS (zs.take n) x))∧w'=w:=Any.slices_Index_string zJ b off n c zs x w hz Ke hc
theorem li(a:Option Addr)(c:Nat)(x:ByteArray)(w:World):
  Calls Tryz.prog 148 #[.slice a 0 c,.string x] w fun e w'=>e=.returned (.int .i64 (Lib.idxOfS [] x))∧w'=w:=Any.slices_Index_string_empty zJ a c x w
def zK:Ren:=⟨fun | 114=>95 | n=>n,fun | 28=>178 | 3=>3 | 4=>4 | 9=>9 | 20=>20 | 0=>0 | n=>n,fun | n=>n⟩
theorem Kf:Lays.n114 Tryz.prog zK:=by repeat' (first | kernel_rfl | (intro;kernel_rfl) | constructor)
theorem ua(b off n c:Nat)(zs:List Int)(w:World)(hn:0<n)(hz:n≤zs.length)(Ke:n≤9223372036854775807)(hc:∀ j,j<zs.length→w.cell? ⟨b,off+j,none⟩=some (.int .i64 (zs.getD j 0))):
  Calls Tryz.prog 95 #[.slice (some ⟨b,off,none⟩) n c] w fun e w'=>e=.returned (.int .i64 (Lib.minOf (zs.take n)))∧w'=w:=Any.slices_Min_int Kf b off n c zs w hn hz Ke hc
def pL:Ren:=⟨fun | 45=>176 | n=>n,fun | 22=>31 | 23=>9 | 3=>3 | 4=>4 | 0=>0 | n=>n,fun | n=>n⟩
theorem ub:SlLaysE.n45 Tryz.prog pL:=by repeat' (first | kernel_rfl | (intro;kernel_rfl) | exact⟨Tryz.f176.name,by decide,func176.trans (congrArg some (by kernel_rfl))⟩ | constructor)
def pM:Ren:=⟨fun | 45=>128 | n=>n,fun | 22=>96 | 23=>126 | 3=>3 | 4=>4 | 0=>0 | n=>n,fun | n=>n⟩
theorem ud:SlLaysE.n45 Tryz.prog pM:=by repeat' (first | kernel_rfl | (intro;kernel_rfl) | exact⟨Tryz.f128.name,by decide,func128.trans (congrArg some (by kernel_rfl))⟩ | constructor)
theorem ng{α:Type}[Inhabited α](enc:α → Value)(h1:OneCell enc)(zr:α)(v23:∀ w,(zeroValue 126).run Tryz.prog w=.ok (enc zr) w)(i0:TypeInfo)(Ri:Tryz.prog.info? 126=some i0)(ju:i0.size=1)(ap off cap i j:Nat)(d:Array α)(w:World)(hH:Holds enc w ap off d)(zz:d.size≤cap)(hm:cap≤9223372036854775807)(U0:i≤j)(hj:j≤d.size):
  Calls Tryz.prog 128 #[.slice (some ⟨ap,off,none⟩) d.size cap,.int .i64 i,.int .i64 j] w fun e w'=>e=.returned (.slice (some ⟨ap,off,none⟩) (d.size-(j-i)) cap)∧∃ q,w'=putRow enc (Sort.ahead w q) ap off (d.toList.take i++d.toList.drop j++List.replicate (j-i) zr).toArray:=AnyE.slices_Delete ud enc h1 zr v23 i0 Ri ju ap off cap i j d w hH zz hm U0 hj
theorem oz{α:Type}[Inhabited α](enc:α → Value)(h1:OneCell enc)(zr:α)(v23:∀ w,(zeroValue 9).run Tryz.prog w=.ok (enc zr) w)(i0:TypeInfo)(Ri:Tryz.prog.info? 9=some i0)(ju:i0.size=1)(ap off cap i j:Nat)(d:Array α)(w:World)(hH:Holds enc w ap off d)(zz:d.size≤cap)(hm:cap≤9223372036854775807)(U0:i≤j)(hj:j≤d.size):
  Calls Tryz.prog 176 #[.slice (some ⟨ap,off,none⟩) d.size cap,.int .i64 i,.int .i64 j] w fun e w'=>e=.returned (.slice (some ⟨ap,off,none⟩) (d.size-(j-i)) cap)∧∃ q,w'=putRow enc (Sort.ahead w q) ap off (d.toList.take i++d.toList.drop j++List.replicate (j-i) zr).toArray:=AnyE.slices_Delete ub enc h1 zr v23 i0 Ri ju ap off cap i j d w hH zz hm U0 hj
def zL(m:UInt8)(w w':World):Prop:=∀ ad,w.cell? ad=some (bJ m)→w'.cell? ad=some (bJ m)
theorem zL.trans{m:UInt8}{a b c:World}(h:zL m a b)(k:zL m b c):zL m a c:=fun ad hd=>k ad (h ad hd)
theorem zL.refl(m:UInt8)(w:World):zL m w w:=fun _ h=>h
theorem Rd.nO{m:UInt8}{n:Nat}{w w':World}{v:Value}(h:Rd w v (List.replicate n m))(k:zL m w w'):Rd w' v (List.replicate n m):=by
 rcases h with h | ⟨a,c,hv,hc⟩
 ·exact Or.inl h
 ·refine Or.inr ⟨a,c,hv,fun j u hu=>?_⟩
  have h1:=hc j u hu
  have e:u=bJ m:=by
   rw[List.map_replicate] at hu;have:=List.mem_of_getElem? hu;simpa using(List.mem_replicate.1 this).2
  subst e;exact k _ h1
theorem Rd.sF{w w':World}{v:Value}{L:List UInt8}(h:Rd w v L)(hs:∀ k,v.ownBlock=some k→0<L.length→w'.heap[k]? = w.heap[k]?):Rd w' v L:=by
 rcases h with h | ⟨a,c,rfl,hc⟩
 ·exact Or.inl h
 ·refine Or.inr ⟨a,c,rfl,fun j u hu=>?_⟩
  have hl:0<L.length:=by
   rcases Nat.eq_zero_or_pos L.length with e | e
   ·have:=List.eq_nil_of_length_eq_zero e;subst this;simp at hu
   ·exact e
  have h2:(a.add j).block=a.block:=by unfold Addr.add;split<;>rfl
  rw[World.cell?_of_block (w:=w) (w':=w') (a:=a.add j) (by rw[h2];exact hs a.block rfl hl)];exact hc j u hu
theorem fG.put{w:World}{lo g c:Nat}{L:List UInt8}(h:fG w lo (.slice (some ⟨g,0,none⟩) L.length c) L)(i:Nat)(m:UInt8):fG (w.setCell ⟨g,i,none⟩ (bJ m)) lo (.slice (some ⟨g,0,none⟩) (L.set i m).length c) (L.set i m):=by
 rcases h.2 with⟨h0,_⟩ | ⟨g',cap,cur,hv,hb,hh,h1,h2,h3,h4⟩
 ·simp at h0
 ·simp at hv
  obtain⟨rfl,rfl⟩:=hv;refine⟨by simp,.inr ⟨g,c,cur.setIfInBounds i (bJ m),rfl,hb,?_,by simpa using h1,h2,by simpa using h3,?_⟩⟩
  ·simp only[World.setCell,Array.getElem?_modify,hh]
   simp
  ·rw[Array.toList_setIfInBounds,List.length_set,List.take_set,h4,List.map_set]
theorem oA{b:Nat}{T:TypeId}:∀ (vs:List Value) (o:Nat) (w:World) (cur:Array Value),w.heap[b]? = some (.cells cur T (0,0))→o+vs.length≤cur.size →
  ∃ sG,(w.setCells b o vs).heap[b]? = some (.cells sG T (0,0))∧sG.toList=cur.toList.take o++vs++cur.toList.drop (o+vs.length)
 | [],o,w,cur,h,_=>⟨cur,h,by simp⟩
 | v::r,o,w,cur,h,hl=>by
  simp only[List.length_cons] at hl;obtain⟨sG,h1,h2⟩:=oA r (o+1) (w.setCell (aj b o) v) (cur.setIfInBounds o v) (heap_setCell_same w b o cur T v h) (by simp;omega);refine⟨sG,h1,?_⟩;rw[h2,Array.toList_setIfInBounds]
  have e1:(cur.toList.set o v).take (o+1)=cur.toList.take o++[v]:=by
   rw[List.take_succ_eq_append_getElem (by simp;omega),List.take_set_of_le (Nat.le_refl _)];simp
  rw[e1,List.drop_set_of_lt (by omega),show o+1+r.length=o+(v::r).length by rw[List.length_cons];omega];simp
theorem lZ{b:Nat}:∀ (vs:List Value) (o:Nat) (w:World) (k:Nat),k≠b→(w.setCells b o vs).heap[k]? = w.heap[k]?
 | [],_,_,_,_=>rfl
 | v::r,o,w,k,hk=>(lZ r (o+1) (w.setCell (aj b o) v) k hk).trans (Below.heap_setCell _ _ _ _ hk)
theorem nh{b:Nat}:∀ (vs:List Value) (o:Nat) (w:World),(w.setCells b o vs).os=w.os∧(w.setCells b o vs).tape=w.tape∧(w.setCells b o vs).output=w.output∧(w.setCells b o vs).heap.size=w.heap.size
 | [],_,_=>⟨rfl,rfl,rfl,rfl⟩
 | v::r,o,w=>by
  obtain⟨h1,h2,h3,h4⟩:=nh (b:=b) r (o+1) (w.setCell (aj b o) v);exact⟨h1,h2,h3,h4.trans (by simp[World.setCell])⟩
theorem fG.l9{w:World}{lo lo':Nat}{v:Value}{L:List UInt8}(h:fG w lo v L)(hl:lo'≤lo):fG w lo' v L:=by
 obtain⟨h1,h2⟩:=h;refine⟨h1,?_⟩
 rcases h2 with h2 | ⟨g,cap,cur,hv,hg,r⟩
 ·exact Or.inl h2
 ·exact Or.inr ⟨g,cap,cur,hv,Nat.le_trans hl hg,r⟩
structure B6(w:World)(lo:Nat)(v:Value)(vs:List Value)(Ls:List (List UInt8)):Prop where
 own:w.ownsRow lo 103 1 v Ls.length vs
 ue:∀ (i:Nat) (u:Value) (L:List UInt8),vs[i]? = some u→Ls[i]? = some L→fG w lo u L
 xd:∀ (i j:Nat) (u u':Value),vs[i]? = some u→vs[j]? = some u'→i≠j→∀ g,u.ownBlock=some g→u'.ownBlock=some g→False
theorem B6.len{w:World}{lo:Nat}{v:Value}{vs:List Value}{Ls:List (List UInt8)}(h:B6 w lo v vs Ls):vs.length=Ls.length:=by have:=h.own.1;omega
theorem B6.nil(w:World)(lo:Nat):B6 w lo (.slice none 0 0) [] []:=⟨World.ownsRow_nil _ _ _ _,fun i u L h=>by simp at h,fun i j u u' h=>by simp at h⟩
theorem B6.at{w:World}{lo:Nat}{v:Value}{vs:List Value}{Ls:List (List UInt8)}(h:B6 w lo v vs Ls){i:Nat}(hi:i<Ls.length):∃ u,vs[i]? = some u∧fG w lo u Ls[i]:=by
 have hl:=h.len;exact⟨vs[i],List.getElem?_eq_getElem (by omega),h.ue i _ _ (List.getElem?_eq_getElem (by omega)) (List.getElem?_eq_getElem hi)⟩
theorem B6.same{w w':World}{lo:Nat}{v:Value}{vs:List Value}{Ls:List (List UInt8)}(h:B6 w lo v vs Ls)(hs:∀ k,lo≤k→k<w.heap.size→w'.heap[k]? = w.heap[k]?):B6 w' lo v vs Ls :=
 ⟨aH h.own (fun g hg=>hs g (h.own.lt g hg).1 (h.own.lt g hg).2),fun i u L hu hL=>aH (h.ue i u L hu hL) (fun g hg=>hs g ((h.ue i u L hu hL).lt g hg).1 ((h.ue i u L hu hL).lt g hg).2),h.xd⟩
theorem Tryz.infoBytes:(Tryz.prog.info? 103).map (fun i=>(i.zero,i.size,i.bytes))=some (some (.slice none 0 0),1,24):=by kernel_rfl
theorem B6.push{w w1 w2:World}{lo:Nat}{v v' u:Value}{vs:List Value}{Ls:List (List UInt8)}{P:List UInt8}(h:B6 w lo v vs Ls)(hu:fG w1 w.heap.size u P)(hs:∀ k,lo≤k→k<w.heap.size→w1.heap[k]? = w.heap[k]?)(di:lo≤w.heap.size)
  (iY:w2.ownsRow lo 103 1 v' (Ls.length+1) (vs++[u])) (hg:gd w1 w2 v v'):B6 w2 lo v' (vs++[u]) (Ls++[P]):=by
 have h1:=h.same hs;have bT:∀ {u:Value} {L:List UInt8} {lo':Nat},fG w1 lo' u L→∀ g,u.ownBlock=some g→some g≠v.ownBlock:=fun hB g xR e=>JW hB h1.own (by decide) xR e.symm rfl
 have hl:=h.len;refine⟨by rw[List.length_append];exact iY,fun i q L hq hL=>?_,fun i j q q' hq QC U0 g ku nG=>?_⟩
 ·rcases Nat.lt_or_ge i vs.length with hi | hi
  ·rw[List.getElem?_append_left hi] at hq
   rw[List.getElem?_append_left (by omega)] at hL;have hB:=h1.ue i q L hq hL;exact aH hB (fun g xR=>hg.g.block g (hB.lt g xR).2 (bT hB g xR))
  ·rw[List.getElem?_append_right hi] at hq
   rw[List.getElem?_append_right (by omega)] at hL
   have Ri:i-vs.length=0:=by
    rcases Nat.eq_zero_or_pos (i-vs.length) with e | e
    ·exact e
    ·rw[List.getElem?_eq_none (by simp;omega)] at hq;cases hq
   rw[Ri] at hq;rw[show i-Ls.length=0 by omega] at hL;simp at hq hL;subst hq hL;exact fG.l9 (aH hu (fun g xR=>hg.g.block g (hu.lt g xR).2 (bT hu g xR))) di
 ·have key:∀ (i j:Nat) (q q':Value),i<vs.length→vs.length≤j→(vs++[u])[i]? = some q→(vs++[u])[j]? = some q'→q.ownBlock=some g→q'.ownBlock=some g→False:=fun i j q q' hi hj hq QC ku nG=>by
   rw[List.getElem?_append_left hi] at hq;rw[List.getElem?_append_right hj] at QC
   have hj0:j-vs.length=0:=by
    rcases Nat.eq_zero_or_pos (j-vs.length) with e | e
    ·exact e
    ·rw[List.getElem?_eq_none (by simp;omega)] at QC;cases QC
   rw[hj0] at QC;simp at QC;subst QC;have h2:=(hu.lt g nG).1;have h3:=((h.ue i q Ls[i] hq (List.getElem?_eq_getElem (by omega))).lt g ku).2;omega
  rcases Nat.lt_or_ge i vs.length with hi | hi<;>rcases Nat.lt_or_ge j vs.length with hj | hj
  ·rw[List.getElem?_append_left hi] at hq
   rw[List.getElem?_append_left hj] at QC;exact h.xd i j q q' hq QC U0 g ku nG
  ·exact key i j q q' hi hj hq QC ku nG
  ·exact key j i q' q hj hi QC hq nG ku
  ·have:=(List.getElem?_eq_some_iff.1 hq).1
   have:=(List.getElem?_eq_some_iff.1 QC).1;simp at *;omega
theorem Kg(w:World)(u:Value)(T:TypeId):∀ j u',[u][j]? = some u'→(w.alloc (.cells #[u] T)).cell? (((aj w.heap.size 0):Addr).add j)=some u':=by
 intro j u' hj
 match j,hj with
 | 0,hj=>simp at hj;subst hj;simp[Addr.add]
theorem Of{a:Option Addr}{n c:Nat}:∀ u∈[Value.slice a n c],u.oneCell'=true:=fun u hu=>by simp at hu;subst hu;rfl
theorem uf(s:ByteArray):Lib.strCells s=s.toList.map bJ:=by
 unfold Lib.strCells;rw[ByteArray.toList_eq];rfl
def cI(c:Int)(n:Nat):Nat:=((if c<0 then -(c+1) else c) % n).toNat
theorem mod_lt{a:Int}{n:Nat}(h:0<n):0≤a % (n:Int)∧a % (n:Int)<n:=⟨Int.emod_nonneg _ (by omega),Int.emod_lt_of_pos _ (by omega)⟩
theorem fw(c:Int){n:Nat}(h:0<n):cI c n<n:=by
 unfold cI;have:=mod_lt (a:=if c<0 then -(c+1) else c) h;omega
theorem Og{c:Int}{n:Nat}(h0:0<n)(h:c<0):((cI c n:Nat):Int) = -((c+1).tmod n):=by
 unfold cI;rw[if_pos h,← Int.neg_tmod,Int.tmod_eq_emod_of_nonneg (by omega)];have:=mod_lt (a:=-(c+1)) h0;omega
theorem Oh{c:Int}{n:Nat}(h0:0<n)(h:¬ c<0):((cI c n:Nat):Int)=c % n:=by
 unfold cI;rw[if_neg h];have:=mod_lt (a:=c) h0;omega
structure QD where
 name:ByteArray
 value:ByteArray
 answer:ByteArray
 id:Int
 ended:Nat
structure gp where
 aG:Nat
 start:Nat
 aE:Nat
 ended:Nat
 ni:Bool
structure PkP where
 bA:Nat
 p:aS
structure WP where
 s:SP
 c:CP
 W:Nat
 D:Nat
 R:Nat
 bA:Nat
 lG:Nat
 lS:Nat
 U1:List PkP
 U2:List PkP
 v0:List ByteArray
 v1:List ByteArray
 v2:List ByteArray
 d0:Bool
 d1:Bool
 d2:Bool
 ae:List gp
 aU:List QD
 ZI:Nat
 bh:Nat
 bj:Nat
 dN:Bool
 vu:Bool
namespace WP
def lj(w:WP):WP:={ w with bh:=w.bh+1,dN:=w.dN||decide (w.D≤w.bh+1),c:=w.c.hJ w.D }
def lp(w:WP):WP:={ w with bj:=w.bj+1,dN:=w.dN||decide (w.D≤w.bj+1),s:=w.s.hJ w.W w.D }
def ZJ(w:WP):WP:={ w with bA:=w.bA+1,lG:=w.bA+1,lS:=w.bA+1,c:=(w.c.raise ((w.bA+1:Nat):Int)).dI,s:=w.s.raise ((w.bA+1:Nat):Int) }
def aem(ask:SP.jX)(w:WP)(p:aS):WP:=if w.lG=w.lS then { w with bj:=0,s:=w.s.take ask w.W p } else w
def aen(bp:vh)(w:WP)(p:aS):WP:=if w.lS=w.lG then { w with bh:=0,c:=w.c.take bp w.R p } else w
def iB(w:WP):WP:={ w with c:={ w.c with L:=[] } }
def ug(w:WP):WP:={ w with s:={ w.s with L:=[] } }
def ZK(ask:SP.jX)(bp:vh):Nat→WP→WP × Bool
 | 0,w=>(w,false)
 | n+1,w=>
  let w1:=w.c.L.foldl (aem ask) w.iB
  let w2:=w1.s.L.foldl (aen bp) w1.ug
  if w.c.L.isEmpty&&w1.s.L.isEmpty then(w2,true) else ZK ask bp n w2
end WP
theorem gE(c:Int)(n:Nat)(w:World)(h0:0<n)(h1:n≤maxLen)(hc:-9223372036854775808≤c∧c≤9223372036854775807):
  aT 5 #[vI c,vI n] w fun e w'=>e=.returned (vI (cI c n))∧w'=w:=by
 unfold maxLen at h1
 by_cases rJ:c<0
 ·have HP:=U (Og (n:=n) h0 rJ)
  go_enter func5,ntmps5
  go_wp2_with fail
  go_ret
  refine⟨mH ?_,rfl⟩;rw[HP.o]
 ·have HP:=U (Oh (n:=n) h0 rJ)
  go_enter func5,ntmps5
  go_wp2_with fail
  go_ret
  refine⟨mH ?_,rfl⟩;rw[HP.o]
end Go.Proofs.YtkpfplbmmglkkaaGreatDoor
namespace Go.Proofs.YtkpfplbmmglkkaaGreatDoor
open Go.Proofs.Tryz
open Go.ChangeShapes Go.WideShapes Go.ChangeAt Go.RowKit
section
variable {H:Type} {enc:TypeId × Value→H} {P:Program} {w:World} {base:Nat} {spare:Nat→Bool} {held:Bool}
theorem Gc{t0 t1 t2 t3 t4 t5:TypeId}{args:Array Value}{ds:List (DataW H)}{ps:List MemPlace}(h:DataW.TrodAll enc P w base spare held [t0,t1,t2,t3,t4,t5] args.toList ds ps):
  ∃ v0 v1 v2 v3 v4 v5 d0 d1 d2 d3 d4 d5 p0 p1 p2 p3 p4 p5,args=#[v0,v1,v2,v3,v4,v5]∧ds=[d0,d1,d2,d3,d4,d5]∧ps=p0++(p1++(p2++(p3++(p4++p5))))∧DataW.Trod enc P w base spare held t0 v0 d0 p0∧DataW.Trod enc P w base spare held t1 v1 d1 p1∧DataW.Trod enc P w base spare held t2 v2 d2 p2∧DataW.Trod enc P w base spare held t3 v3 d3 p3∧DataW.Trod enc P w base spare held t4 v4 d4 p4∧DataW.Trod enc P w base spare held t5 v5 d5 p5:=by
 obtain⟨v0,vs0,d0,ds0,p0,q0,e0,f0,g0,h0,r0⟩:=trodAll_cons h;obtain⟨v1,vs1,d1,ds1,p1,q1,e1,f1,g1,h1,r1⟩:=trodAll_cons r0;obtain⟨v2,vs2,d2,ds2,p2,q2,e2,f2,g2,h2,r2⟩:=trodAll_cons r1;obtain⟨v3,vs3,d3,ds3,p3,q3,e3,f3,g3,h3,r3⟩:=trodAll_cons r2;obtain⟨v4,vs4,d4,ds4,p4,q4,e4,f4,g4,h4,r4⟩:=trodAll_cons r3;obtain⟨v5,vs5,d5,ds5,p5,q5,e5,f5,g5,h5,r5⟩:=trodAll_cons r4;obtain⟨e6,f6,g6⟩:=trodAll_nil r5;subst e6 f6 g6 e5 f5 g5 e4 f4 g4 e3 f3 g3 e2 f2 g2 e1 f1 g1 f0 g0;exact⟨v0,v1,v2,v3,v4,v5,d0,d1,d2,d3,d4,d5,p0,p1,p2,p3,p4,p5,by rw[← Array.toArray_toList (xs:=args),e0],rfl,by simp,h0,h1,h2,h3,h4,h5⟩
theorem Gd{t0 t1 t2 t3 t4 t5:TypeId}{v0 v1 v2 v3 v4 v5:Value}{d0 d1 d2 d3 d4 d5:DataW H}{p0 p1 p2 p3 p4 p5:List MemPlace}(h0:DataW.Trod enc P w base spare held t0 v0 d0 p0)(h1:DataW.Trod enc P w base spare held t1 v1 d1 p1)(h2:DataW.Trod enc P w base spare held t2 v2 d2 p2)(h3:DataW.Trod enc P w base spare held t3 v3 d3 p3)(h4:DataW.Trod enc P w base spare held t4 v4 d4 p4)(h5:DataW.Trod enc P w base spare held t5 v5 d5 p5):
  DataW.TrodAll enc P w base spare held [t0,t1,t2,t3,t4,t5] [v0,v1,v2,v3,v4,v5] [d0,d1,d2,d3,d4,d5] (p0++(p1++(p2++(p3++(p4++p5))))) :=
 trodAll_cons_mk h0 (trodAll_cons_mk h1 (trodAll_cons_mk h2 (trodAll_cons_mk h3 (trodAll_cons_mk h4 (trodAll_mk1 h5)))))
end
end Go.Proofs.YtkpfplbmmglkkaaGreatDoor

/- Package schemas: itemNames. -/
import Derived.Test.YtgalebcpagmohaaGreatDoorMParse
set_option maxHeartbeats 1000000
set_option maxRecDepth 100000
namespace Go.Proofs.YtgalebcpagmohaaGreatDoor
open Go.Proofs.Tryz
open Go.RowKit
def dL (X:List bY):List aF:=(X.filter (fun x=>gZ x.it.kind)).map (fun x=>x.it.name)
def bW (X:List bY):List aF:=(X.filter (fun x=>!gZ x.it.kind)).map (fun x=>x.it.name)
theorem yJ (X:List bY) (x:bY):dL (X++[x])=dL X++if gZ x.it.kind then [x.it.name] else []:=by
 unfold dL;rw[List.filter_append];cases h:gZ x.it.kind<;>simp[h]
theorem yK (X:List bY) (x:bY):bW (X++[x])=bW X++if gZ x.it.kind then [] else [x.it.name]:=by
 unfold bW;rw[List.filter_append];cases h:gZ x.it.kind<;>simp[h]
theorem Ar (X:List bY):(dL X).length≤X.length:=by unfold dL;rw[List.length_map];exact List.length_filter_le _ _
theorem Au (X:List bY):(bW X).length≤X.length:=by unfold bW;rw[List.length_map];exact List.length_filter_le _ _
def EX (u v:Value):Prop:=∀ b,u.ownBlock=some b→v.ownBlock=some b→False
theorem KE {w:World} {lo H:Nat} {e:TypeId} {size m n:Nat} {u v:Value} {ys:List Value} {g cp:Nat} (h:EX u v) (hv:w.ownsRow lo e size v m ys) (hle:w.heap.size≤H) (hg:u.ownBlock=some g∨g=H):EX (.slice (some ⟨g,0,none⟩) n cp) v:=by
 intro b h1 h2
 have hb:g=b:=by simpa[Value.ownBlock] using h1
 subst hb
 rcases hg with hg | hg
 ·exact h _ hg h2
 ·have:=(hv.lt _ h2).2;omega
theorem Gn {w w0 w1:World} {lo:Nat} {e:TypeId} {size m:Nat} {u v:Value} {ys:List Value} (h:EX u v) (hv:w.ownsRow lo e size v m ys) (hb:Below w.heap.size w w0) (hg:w0.grownBy w1 u.ownBlock):w1.ownsRow lo e size v m ys :=
 au hv (fun k hk=>by
  have hl:=(hv.lt k hk).2
  rw[hg.block k (Nat.lt_of_lt_of_le hl hb.size) (fun hh=>h k hh.symm hk)]
  exact hb.block k hl)
theorem EX.symm {u v:Value} (h:EX u v):EX v u:=fun b h1 h2=>h b h2 h1
theorem Fg (w:World) (lo:Nat) (lv:Value) (X:List bY) (h:fQ w lo lv X) (hn:Oh X) (hX:X.length≤400) :
  Calls Tryz.prog 134 #[lv] w fun e w'=>∃ t o,e=.returned (.tuple #[t,o])∧w'.ownsRow w.heap.size 131 2 t (dL X).length ((dL X).flatMap aA)∧w'.ownsRow w.heap.size 131 2 o (bW X).length ((bW X).flatMap aA)∧Below w.heap.size w w':=by
 obtain⟨iN,hiN,hN0,hN1,Uf⟩:=info_parts Tryz.infoPName
 obtain⟨la,lc,hlv⟩:∃ a c,lv=.slice a X.length c:=ak h.own
 subst hlv
 have H:=hid h
 have HN:=hid hn
 clear h hn
 go_enter func134,ntmps134
 go_wp2_with fail
 go_loopg [2,3,5,8] X.length (fun gk t o b i wr=>∃ k:Nat,k+gk=X.length∧i=.int .i64 k∧Hid (wr.ownsRow w.heap.size 131 2 t (dL (X.take k)).length ((dL (X.take k)).flatMap aA))∧Hid (wr.ownsRow w.heap.size 131 2 o (bW (X.take k)).length ((bW (X.take k)).flatMap aA))∧Hid (EX t o)∧Below w.heap.size w wr)
 case atStart=>exact⟨0,by omega,rfl,hid (World.ownsRow_nil _ _ _ _),hid (World.ownsRow_nil _ _ _ _),hid (fun b h1 _=>by simp[Value.ownBlock] at h1),Below.refl _ _⟩
 case round=>
  obtain⟨k,hk,rfl,HT,HR,HA,hbel⟩:=hrel
  have hsz:=hbel.size
  by_cases hlt:k<X.length
  ·obtain⟨x,hx⟩:∃ x,X[k]? = some x:=⟨X[k],List.getElem?_eq_getElem hlt⟩
   obtain⟨g,cap,hv,hgl,hgs⟩:=dM H.out.own (by omega)
   obtain⟨rfl,rfl⟩:la=some ⟨g,0,none⟩∧lc=cap:=by simpa using hv
   obtain⟨n,hn⟩:=(H.out.below hbel).uM HN.out hx
   have hs:=hn.seg
   have HK:=hid (show X.take (k+1)=X.take k++[x] by rw[List.take_add_one,hx];rfl)
   have hl1:=Ar (X.take k)
   have hl2:=Au (X.take k)
   rw[List.length_take] at hl1 hl2
   clear hx hv hn
   obtain⟨ta,tc,U6⟩:∃ a c,u2=.slice a (dL (X.take k)).length c:=ak HT.out
   obtain⟨oa,oc,hov⟩:∃ a c,u3=.slice a (bW (X.take k)).length c:=ak HR.out
   subst U6 hov
   have c0:=hs.cell (j:=0) rfl
   have c1:=hs.cell (j:=1) rfl
   have c2:=hs.cell (j:=2) rfl
   have c3:=hs.cell (j:=3) rfl
   have c4:=hs.cell (j:=4) rfl
   have c5:=hs.cell (j:=5) rfl
   have c6:=hs.cell (j:=6) rfl
   have c7:=hs.cell (j:=7) rfl
   have c8:=hs.cell (j:=8) rfl
   simp only[Nat.add_zero] at c0
   clear hs
   go_wp2_with fail
   refine(Am _ _ _ _ _ _ _ _ _ _).mono ?_;rintro e w2 ⟨rfl,hb2'⟩
   have hb1:Below wr.heap.size wr (wr.alloc (.cells #[.int .i64 x.it.kind,.string x.it.name.text,.int .i64 x.it.name.at_,.slice n.fa x.it.fields.length n.fc,.slice n.na x.it.names.length n.nc,.string n.bb,.int .i64 n.ba,.string n.ab,.int .i64 n.aa] 135)):=(Below.refl _ _).alloc (Nat.le_refl _) _
   have d1:w2.cell? ⟨wr.heap.size,1,none⟩=some (.string x.it.name.text):=by rw[hb2'.cell (by simp)];simp
   have d2:w2.cell? ⟨wr.heap.size,2,none⟩=some (.int .i64 x.it.name.at_):=by rw[hb2'.cell (by simp)];simp
   have hbw:=hb1.trans (hb2'.mono hb1.size)
   have hb2:=hbel.trans (hbw.mono hsz)
   have hz2:=hbw.size
   have HT2:=hid (au (w':=w2) HT.out (fun g hg=>hbw.block g (HT.out.lt g hg).2))
   have HR2:=hid (au (w':=w2) HR.out (fun g hg=>hbw.block g (HR.out.lt g hg).2))
   clear c0 c1 c2 c3 c4 c5 c6 c7 c8 hb2' hb1 HT HR
   cases hty:gZ x.it.kind with
   | true=>
    have U7:=hid (show dL (X.take (k+1))=dL (X.take k)++[x.it.name] by rw[HK.out,yJ,hty];rfl)
    have HE2:=hid (show bW (X.take (k+1))=bW (X.take k) by rw[HK.out,yK,hty];simp)
    go_wp2_with (at_builtin;refine wpList_append_lies _ rfl _ _ 133 rfl w.heap.size 131 iN _ 2 24 underlying133 hiN hN0 hN1 Uf rfl (by decide) _ _ _ rfl (HT2.out.alloc _) ⟨_,0,none⟩ 1 1 (aA x.it.name) rfl rfl (dh _ _ (by simp) #[.string x.it.name.text,.int .i64 x.it.name.at_] _) (by simp[aA,Value.oneCell']) (by omega) (by unfold maxLen;omega) (by omega) (by simp;omega) _ rfl ?_)
    intro g5 cp5 w5 hown5 dw KF _
    have hb5:=kG hb2 (by omega) HT2.out (Nat.le_refl _) dw
    have hoth:=Gn HA.out HR2.out ((Below.refl _ _).alloc (Nat.le_refl _) _) dw
    have hap:=KE (n:=(dL (X.take k)).length+1) (cp:=cp5) HA.out HR2.out (by omega) KF
    clear dw KF
    go_wp2_with fail
    go_roundg (gk-1)
    case rel=>exact⟨k+1,by omega,by go_num,hid (by rw[U7.out,List.flatMap_append];simpa using hown5),hid (by rw[HE2.out];exact hoth),hid hap,hb5⟩
    case measure=>omega
   | false=>
    have U7:=hid (show dL (X.take (k+1))=dL (X.take k) by rw[HK.out,yJ,hty];simp)
    have HE2:=hid (show bW (X.take (k+1))=bW (X.take k)++[x.it.name] by rw[HK.out,yK,hty];rfl)
    go_wp2_with (at_builtin;refine wpList_append_lies _ rfl _ _ 133 rfl w.heap.size 131 iN _ 2 24 underlying133 hiN hN0 hN1 Uf rfl (by decide) _ _ _ rfl (HR2.out.alloc _) ⟨_,0,none⟩ 1 1 (aA x.it.name) rfl rfl (dh _ _ (by simp) #[.string x.it.name.text,.int .i64 x.it.name.at_] _) (by simp[aA,Value.oneCell']) (by omega) (by unfold maxLen;omega) (by omega) (by simp;omega) _ rfl ?_)
    intro g5 cp5 w5 hown5 dw KF _
    have hb5:=kG hb2 (by omega) HR2.out (Nat.le_refl _) dw
    have hoth:=Gn HA.out.symm HT2.out ((Below.refl _ _).alloc (Nat.le_refl _) _) dw
    have hap:=KE (n:=(bW (X.take k)).length+1) (cp:=cp5) HA.out.symm HT2.out (by omega) KF
    clear dw KF
    go_wp2_with fail
    go_roundg (gk-1)
    case rel=>exact⟨k+1,by omega,by go_num,hid (by rw[U7.out];exact hoth),hid (by rw[HE2.out,List.flatMap_append];simpa using hown5),hid hap.symm,hb5⟩
    case measure=>omega
  ·have HE:=hid (show X.take k=X from List.take_of_length_le (by omega))
   go_wp2_with fail
   go_ret2
   exact⟨_,_,rfl,by have:=HT.out;rw[HE.out] at this;exact this,by have:=HR.out;rw[HE.out] at this;exact this,hbel⟩
def Places (w:World) (lo:Nat) (v:Value) (L:List Nat):Prop:=w.ownsRow lo 3 1 v L.length (L.map eX)
theorem Places.drewN {w:World} {lo:Nat} {v:Value} {L:List Nat} (h:Places w lo v L) (n:Nat):Places (w.drewN n) lo v L :=
 au h (fun g hg=>(below_drewN (Below.refl w.heap.size w) n).block g (h.lt g hg).2)
theorem Places.same {w w':World} {lo:Nat} {v:Value} {L:List Nat} (h:Places w lo v L) (hb:Below w.heap.size w w'):Places w' lo v L :=
 au h (fun g hg=>hb.block g (h.lt g hg).2)
def sZ (b:Bool) (a:Nat):List Nat:=if b then [a] else []
def Qd (fs:List bD) (k:Nat):Bool:=match fs[k]?,fs[k-1]? with | some f,some g=>decide (f.number≤g.number) | _,_=>false
def xq (fs:List bD) (k:Nat):List Nat:=match fs[k]? with | some f=>sZ (Qd fs k) f.numberAt | none=>[]
def oZ (fs:List bD):Nat→List Nat
 | 0=>[]
 | k+1=>oZ fs k++xq fs (k+1)
theorem zC (fs:List bD):∀ k,(oZ fs k).length≤k
 | 0=>by simp[oZ]
 | k+1=>by
  have:=zC fs k
  have h2:(xq fs (k+1)).length≤1:=by
   unfold xq sZ;split
   ·split<;>simp
   ·simp
  simp[oZ];omega
theorem Bo (w:World) (lo:Nat) (v:Value) (fs:List bD) (h:w.ownsRow lo 278 7 v fs.length (fs.flatMap fJ)) (hl:fs.length≤400) :
  Calls Tryz.prog 136 #[v] w fun e w'=>∃ nv,e=.returned nv∧Places w' w.heap.size nv (oZ fs (fs.length-1))∧Below w.heap.size w w':=by
 obtain⟨iI,wX,hI0,hI1,hI2⟩:=info_parts Tryz.infoInt
 obtain⟨la,lc,hlv⟩:∃ a c,v=.slice a fs.length c:=ak h
 subst hlv
 have H:=hid h
 clear h
 go_enter func136,ntmps136
 go_wp2_with fail
 go_loopg [3,4] fs.length (fun gk nv i wr=>∃ k:Nat,(1≤k∧(k≤fs.length∨k=1))∧k+gk=fs.length+1∧i=.int .i64 k∧Hid (Places wr w.heap.size nv (oZ fs (k-1)))∧Below w.heap.size w wr)
 case atStart=>exact⟨1,by omega,by omega,rfl,hid (World.ownsRow_nil _ _ _ _),Below.refl _ _⟩
 case round=>
  obtain⟨k,⟨hk1,hk9⟩,hk,rfl,HO,hbel⟩:=hrel
  have hsz:=hbel.size
  have hpl:=zC fs (k-1)
  by_cases hlt:k<fs.length
  ·obtain⟨f,hf⟩:∃ f,fs[k]? = some f:=⟨fs[k],List.getElem?_eq_getElem hlt⟩
   obtain⟨f0,hf0⟩:∃ f,fs[k-1]? = some f:=⟨fs[k-1],List.getElem?_eq_getElem (by omega)⟩
   obtain⟨na,nc,uy⟩:∃ a c,u3=.slice a (oZ fs (k-1)).length c:=ak HO.out
   subst uy
   obtain⟨g,cap,hv,hgl,hgs,hs⟩:=nU (au H.out (fun g hg=>hbel.block g (H.out.lt g hg).2)) hf
   obtain⟨rfl,rfl⟩:la=some ⟨g,0,none⟩∧lc=cap:=by simpa using hv
   obtain⟨g',cap',hv',_,_,hs'⟩:=nU (au H.out (fun g hg=>hbel.block g (H.out.lt g hg).2)) hf0
   obtain⟨rfl,rfl⟩:g=g'∧lc=cap':=by simpa using hv'
   have c0:wr.cell? ⟨g,k*7,none⟩=some (.int .i64 f.number):=hs.cell (j:=0) rfl
   have c1:wr.cell? ⟨g,k*7+1,none⟩=some (.int .i64 f.numberAt):=hs.cell (j:=1) rfl
   have d0:wr.cell? ⟨g,(k-1)*7,none⟩=some (.int .i64 f0.number):=hs'.cell (j:=0) rfl
   have HE:=hid (show oZ fs k=oZ fs (k-1)++sZ (decide (f.number≤f0.number)) f.numberAt by
    obtain⟨q,rfl⟩:∃ q,k=q+1:=⟨k-1,by omega⟩
    simp only[Nat.add_sub_cancel] at hf0 ⊢
    simp[oZ,xq,Qd,hf,hf0])
   obtain⟨q,hq⟩:∃ q,k-1=q:=⟨_,rfl⟩
   rw[hq] at HO HE d0 hpl ⊢
   have hqq:(k:Int)-1=(q:Int):=by omega
   have hq2:(0:Int)≤(q:Int):=by omega
   have hq3:(q:Int)<(fs.length:Int):=by omega
   have HQ:=hid hq
   clear hs hs' hv hv' hf hf0 hq
   cases hle:decide (f.number≤f0.number) with
   | false=>
    rw[hle] at HE
    have hle':¬ f.number≤f0.number:=by simpa using hle
    go_wp2_with fail
    go_quiet (fail)
    go_wp2_with fail
    go_roundg (gk-1)
    case rel=>exact⟨k+1,by omega,by omega,by go_num,hid (by have:=HO.out;rw[show k+1-1=k by omega,HE.out];simpa[sZ] using this.drewN _),below_drewN hbel _⟩
    case measure=>omega
   | true=>
    rw[hle] at HE
    go_wp2_with fail
    go_quiet (fail)
    go_wp2_with (at_builtin;refine wpList_append_lies _ rfl _ _ 86 rfl w.heap.size 3 iI _ 1 8 underlying86 wX hI0 hI1 hI2 rfl (by decide) _ _ _ rfl ((HO.out.drewN _).alloc _) ⟨_,0,none⟩ 1 1 [eX f.numberAt] rfl rfl (dh _ _ (by simp) #[.int .i64 f.numberAt] _) (by simp[eX,Value.oneCell']) (by omega) (by unfold maxLen;omega) (by omega) (by simp;omega) _ rfl ?_)
    intro g5 cp5 w5 hown5 dw _ _
    have hb5:=kG (below_drewN hbel _) (by simp;omega) (HO.out.drewN _) (Nat.le_refl _) dw
    clear dw
    go_wp2_with fail
    go_roundg (gk-1)
    case rel=>exact⟨k+1,by omega,by omega,by go_num,hid (by show World.ownsRow _ _ _ _ _ _ _;rw[show k+1-1=k by omega,HE.out];simpa[sZ] using hown5),hb5⟩
    case measure=>omega
  ·have HE:=hid (show k-1=fs.length-1 by omega)
   go_wp2_with fail
   go_ret
   exact⟨_,rfl,by have:=HO.out;rw[HE.out] at this;exact this,hbel⟩
theorem RX (l:List aF) (k:Nat) (x:aF) (h:l[k]? = some x):((l.flatMap aA).drop (k*2)).take 2=aA x:=by
 induction l generalizing k with
 | nil=>simp at h
 | cons a r ih=>
  rw[List.flatMap_cons]
  cases k with
  | zero=>simp at h;subst h;simp[aA]
  | succ k=>
   simp at h
   rw[List.drop_append,List.drop_eq_nil_of_le (by simp[aA];omega),List.nil_append,show (k+1)*2-(aA a).length=k*2 from by simp[aA];omega]
   exact ih k h
theorem zD {w:World} {lo:Nat} {v:Value} {fs:List aF} (h:w.ownsRow lo 131 2 v fs.length (fs.flatMap aA)) {j:Nat} {f:aF} (hj:fs[j]? = some f):∃ g c,v=.slice (some ⟨g,0,none⟩) fs.length c∧lo≤g∧g<w.heap.size∧Seg w g 131 (j*2) (aA f):=by
 have hlt:=iR hj
 obtain⟨g,c,hv,hg,hs⟩:=h.form (by omega)
 rw[hv] at h
 have:=(qM h).part (j*2) 2 (aA f) (RX _ j f hj) rfl (by omega)
 exact⟨g,c,hv,hg,hs,by simpa using this⟩
def hasB (X:List bY) (name:ByteArray):Bool:=jl name.toList||decide (0≤bT X name.toList)
def Fh (X:List bY) (t:aF):Bool:=!hasB X t.text
theorem Aw (w:World) (lo:Nat) (lv:Value) (X:List bY) (name:ByteArray) (h:fQ w lo lv X) (hn:Oh X) (hX:X.length≤400) :
  Calls Tryz.prog 169 #[lv,.string name] w fun e w'=>e=.returned (.bool (hasB X name))∧Below w.heap.size w w':=by
 obtain⟨la,lc,hlv⟩:∃ a c,lv=.slice a X.length c:=ak h.own
 subst hlv
 have H:=hid h
 clear h
 have HB:=hid (show hasB X name=(jl name.toList||decide (0≤bT X name.toList)) from rfl)
 generalize hasB X name=r at *
 go_enter func169,ntmps169
 go_wp2_with fail
 refine(qX _ _).mono ?_;rintro e w2 ⟨rfl,rfl⟩
 cases hbi:jl name.toList with
 | true=>
  go_wp2_with fail
  go_ret
  exact⟨aG (by rw[HB.out,hbi];rfl),Below.refl _ _⟩
 | false=>
  go_wp2_with fail
  refine(sW _ lo _ X name H.out hn hX).mono ?_;rintro e w3 ⟨rfl,hb3⟩
  generalize bT X name.toList=fi at *
  go_wp2_with fail
  go_ret
  exact⟨aG (by rw[HB.out,hbi];simp),hb3⟩
def wC (X:List bY) (ts:List aF):List Nat:=ts.flatMap (fun t=>sZ (Fh X t) t.at_)
theorem KG (b:Bool) (a:Nat):(sZ b a).length≤1:=by unfold sZ;split<;>simp
theorem KH (X:List bY) (ts:List aF):(wC X ts).length≤ts.length:=by
 induction ts with
 | nil=>simp[wC]
 | cons a r ih=>unfold wC at *;have:=KG (Fh X a) a.at_;rw[List.flatMap_cons,List.length_append,List.length_cons];omega
theorem RY (X:List bY) (ts:List aF) (t:aF):wC X (ts++[t])=wC X ts++sZ (Fh X t) t.at_:=by simp[wC]
theorem zF (w:World) (lo:Nat) (lv:Value) (X:List bY) (p:iy) (n:Ap) (h:fQ w lo lv X) (hn:Oh X) (hX:X.length≤400) (hf:w.ownsRow lo 278 7 (.slice n.fa p.fields.length n.fc) p.fields.length (p.fields.flatMap fJ)) (hl:p.fields.length≤400) :
  Calls Tryz.prog 137 #[lv,.agg #[.int .i64 p.kind,.string p.name.text,.int .i64 p.name.at_,.slice n.fa p.fields.length n.fc,.slice n.na p.names.length n.nc,.string n.bb,.int .i64 n.ba,.string n.ab,.int .i64 n.aa]] w fun e w'=>∃ nv,e=.returned nv∧Places w' w.heap.size nv (wC X (mZ p n))∧Below w.heap.size w w':=by
 obtain⟨iI,wX,hI0,hI1,hI2⟩:=info_parts Tryz.infoInt
 obtain⟨la,lc,hlv⟩:∃ a c,lv=.slice a X.length c:=ak h.own
 subst hlv
 have H:=hid h
 have HN:=hid hn
 have HF:=hid hf
 clear h hn hf
 go_enter func137,ntmps137
 go_wp2_with fail
 refine(RP _ lo p n (HF.out.alloc _) hl).mono ?_;rintro e w1 ⟨bv,rfl,vS,hb1⟩
 have hb0:Below w.heap.size w (w.alloc (.cells #[.int .i64 p.kind,.string p.name.text,.int .i64 p.name.at_,.slice n.fa p.fields.length n.fc,.slice n.na p.names.length n.nc,.string n.bb,.int .i64 n.ba,.string n.ab,.int .i64 n.aa] 135)):=(Below.refl _ _).alloc (Nat.le_refl _) _
 have Oq:=hb0.trans (hb1.mono hb0.size)
 have hz1:=Oq.size
 have hBl:(mZ p n).length≤400:=by
  unfold mZ;split
  ·simp
  ·split<;>simp<;>omega
 generalize hB:mZ p n=B at *
 obtain⟨ba,bc,hbv⟩:∃ a c,bv=.slice a B.length c:=ak vS
 subst hbv
 have HB:=hid vS
 have HI1:=hid (H.out.below Oq)
 have XE:=hid hB
 clear vS hb1 hb0 hB
 go_wp2_with fail
 go_loopg [5,7,11] B.length (fun gk nv b i wr=>∃ k:Nat,k+gk=B.length∧i=.int .i64 k∧Hid (Places wr w1.heap.size nv (wC X (B.take k)))∧Below w1.heap.size w1 wr)
 case atStart=>exact⟨0,by omega,rfl,hid (World.ownsRow_nil _ _ _ _),Below.refl _ _⟩
 case round=>
  obtain⟨k,hk,rfl,HO,hbel⟩:=hrel
  have hsz:=hbel.size
  have hpl:=KH X (B.take k)
  rw[List.length_take] at hpl
  by_cases hlt:k<B.length
  ·obtain⟨f,hf⟩:∃ f,B[k]? = some f:=⟨B[k],List.getElem?_eq_getElem hlt⟩
   have HE:=hid (show wC X (B.take (k+1))=wC X (B.take k)++sZ (Fh X f) f.at_ by rw[List.take_add_one,hf];exact RY X _ f)
   obtain⟨na,nc,uy⟩:∃ a c,u5=.slice a (wC X (B.take k)).length c:=ak HO.out
   subst uy
   obtain⟨g,cap,hv,hgl,hgs,hs⟩:=zD (au HB.out (fun g hg=>hbel.block g (HB.out.lt g hg).2)) hf
   obtain⟨rfl,rfl⟩:ba=some ⟨g,0,none⟩∧bc=cap:=by simpa using hv
   have c0:wr.cell? ⟨g,k*2,none⟩=some (.string f.text):=hs.cell (j:=0) rfl
   have c1:wr.cell? ⟨g,k*2+1,none⟩=some (.int .i64 f.at_):=hs.cell (j:=1) rfl
   have hbx:Below wr.heap.size wr (wr.alloc (.cells #[.string f.text,.int .i64 f.at_] 131)):=(Below.refl _ _).alloc (Nat.le_refl _) _
   clear hs hv hf
   go_wp2_with fail
   refine(Aw _ lo _ X f.text (HI1.out.below (hbel.trans (hbx.mono hsz))) HN.out hX).mono ?_;rintro e w3 ⟨rfl,hb3⟩
   have rW:Below wr.heap.size wr w3:=hbx.trans (hb3.mono hbx.size)
   have hz3:=rW.size
   have acw:=hbel.trans (rW.mono hsz)
   have NT:=hid (HO.out.same rW)
   have d1:w3.cell? ⟨wr.heap.size,1,none⟩=some (.int .i64 f.at_):=by rw[hb3.cell (by simp)];simp
   cases hfi:hasB X f.text with
   | true=>
    have HU:=hid (show Fh X f=false by simp[Fh,hfi])
    go_wp2_with fail
    go_roundg (gk-1)
    case rel=>exact⟨k+1,by omega,by go_num,hid (by have:=NT.out;rw[HE.out,HU.out];simpa[sZ] using this),acw⟩
    case measure=>omega
   | false=>
    have HU:=hid (show Fh X f=true by simp[Fh,hfi])
    go_wp2_with (at_builtin;refine wpList_append_lies _ rfl _ _ 86 rfl w1.heap.size 3 iI _ 1 8 underlying86 wX hI0 hI1 hI2 rfl (by decide) _ _ _ rfl (NT.out.alloc _) ⟨_,0,none⟩ 1 1 [eX f.at_] rfl rfl (dh _ _ (by simp) #[.int .i64 f.at_] _) (by simp[eX,Value.oneCell']) (by omega) (by unfold maxLen;omega) (by omega) (by simp;omega) _ rfl ?_)
    intro g5 cp5 w5 hown5 dw _ _
    have hb5:=kG acw (by omega) NT.out (Nat.le_refl _) dw
    clear dw
    go_wp2_with fail
    go_roundg (gk-1)
    case rel=>exact⟨k+1,by omega,by go_num,hid (by show World.ownsRow _ _ _ _ _ _ _;rw[HE.out,HU.out];simpa[sZ] using hown5),hb5⟩
    case measure=>omega
  ·have HE:=hid (show B.take k=B from List.take_of_length_le (by omega))
   go_wp2_with fail
   go_ret
   exact⟨_,rfl,by have:=HO.out;rw[HE.out] at this;rw[XE.out];exact own_base this hz1,Oq.trans (hbel.mono hz1)⟩
end Go.Proofs.YtgalebcpagmohaaGreatDoor

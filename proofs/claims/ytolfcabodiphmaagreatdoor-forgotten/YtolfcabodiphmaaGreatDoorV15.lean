/- Package values: the decoder's message. -/
import Derived.Test.YtolfcabodiphmaaGreatDoorV13
import Derived.Test.YtolfcabodiphmaaGreatDoorV14
set_option linter.unusedSimpArgs false
set_option linter.unusedVariables false
set_option maxHeartbeats 4000000
set_option maxRecDepth 100000
namespace Go.Proofs.YtolfcabodiphmaaGreatDoor
open Go.Proofs.Tryz
open Go.RowKit
theorem J4(X:List aO):abH X 0:=by
 intro w0 w db lo la ll lc v dv L d fv fs hI hd hE hb hdb h hdl hF hO hfs
 unfold jl
 obtain⟨da,dc,hdv⟩:∃ a c,dv=.slice a d.length c:=hd.1.slice
 subst hdv
 obtain⟨fa,fc,hfv⟩:∃ a c,fv=.slice a fs.length c:=ay hO
 subst hfv
 have H:=hid h
 have Fe:=hid (hd.later hb)
 have HLT:=hid hd.1.lt
 have hz:=hb.size
 clear h hI hE hd hF hO hfs
 rw[show (7:Int)-(0:Nat)=7 by omega]
 go_enter func239,ntmps239
 go_wp2_with fail
 refine(zG w w0.heap.size _ d Fe.out (by omega) HLT.out hz).mono ?_;rintro e w1 ⟨pa,pl,pc,ok,rfl,hb1,hans⟩
 have H1:=hid (H.out.below hb1)
 clear hans
 cases ok with
 | false=>
  go_wp2_with fail
  go_ret
  exact⟨false,v,[],rfl,by simpa using H1.out,DF.bG _ hb1,by simp,rfl⟩
 | true=>
  go_wp2_with fail
  go_ret
  exact⟨false,v,[],rfl,by simpa using H1.out,DF.bG _ hb1,by simp,rfl⟩
def OH(G:rV)(val lst:List UInt8→List UInt8→rV)(ps:List (Nat × List UInt8))(fs:List FD)(j:Nat)(first:Bool)(S:List UInt8):Prop:=G=(fieldsD val lst ps (fs.drop j) first).map fun o=>S++o
theorem OH.shut{G:rV}{val lst:List UInt8→List UInt8→rV}{ps:List (Nat × List UInt8)}{fs:List FD}{j:Nat}{first:Bool}{S:List UInt8}(h:OH G val lst ps fs j first S)(hj:fs.length≤j):G=some (S++[125]):=by
 unfold OH at h
 rw[h,List.drop_eq_nil_of_le hj];rfl
theorem OH.aeP{G:rV}{val lst:List UInt8→List UInt8→rV}{ps:List (Nat × List UInt8)}{fs:List FD}{j:Nat}{first:Bool}{S:List UInt8}{f:FD}(h:OH G val lst ps fs j first S)(hf:fs[j]? = some f)(hp:ps.find? (fun p=>p.1==f.number)=none):(f.shape=1→OH G val lst ps fs (j+1) first S)∧(f.shape≠1→G=none):=by
 unfold OH at h ⊢
 have hlt:=lQ hf
 rw[List.drop_eq_getElem_cons hlt] at h
 have e:fs[j]=f:=by rw[List.getElem?_eq_getElem hlt] at hf;simpa using hf
 rw[e] at h
 unfold fieldsD at h
 rw[hp] at h
 exact⟨fun hs=>by simpa[hs] using h,fun hs=>by simpa[hs] using h⟩
theorem OH.aeQ{G:rV}{val lst:List UInt8→List UInt8→rV}{ps:List (Nat × List UInt8)}{fs:List FD}{j:Nat}{first:Bool}{S:List UInt8}{f:FD}{p:Nat × List UInt8}(h:OH G val lst ps fs j first S)(hf:fs[j]? = some f)(hp:ps.find? (fun p=>p.1==f.number)=some p):
  ((if f.shape=2 then lst f.base p.2 else val f.base p.2)=none→G=none)∧(∀ s,(if f.shape=2 then lst f.base p.2 else val f.base p.2)=some s→OH G val lst ps fs (j+1) false (S++(Jy first++f.name++[58])++s)):=by
 unfold OH at h ⊢
 have hlt:=lQ hf
 rw[List.drop_eq_getElem_cons hlt] at h
 have e:fs[j]=f:=by rw[List.getElem?_eq_getElem hlt] at hf;simpa using hf
 rw[e] at h
 unfold fieldsD at h
 rw[hp] at h
 refine⟨fun hv=>by rw[h];simp only[hv];rfl,fun s hv=>?_⟩
 rw[h]
 simp only[hv,Option.bind_some,Option.map_map]
 congr 1
 funext o
 simp
def wt(o:Option (Nat × List UInt8)):Nat:=match o with | none=>0 | some p=>1000*(p.2.length+2)
theorem abL{ps:List (Nat × List UInt8)}:∀ {ns:List Nat},ns.Pairwise (· ≠ ·)→(ns.map fun n=>wt (ps.find? (fun p=>p.1==n))).sum≤(ps.map fun p=>1000*(p.2.length+2)).sum:=by
 induction ps with
 | nil=>
  intro ns _
  have hz:∀ ns:List Nat,(ns.map fun _=>0).sum=0:=fun ns=>by
   induction ns with
   | nil=>rfl
   | cons n r ih=>simp[ih]
  simp[wt,hz]
 | cons p ps ih=>
  intro ns hn
  have h1:=ih hn
  have key:∀ ns:List Nat,ns.Pairwise (· ≠ ·)→(ns.map fun n=>wt ((p::ps).find? (fun p=>p.1==n))).sum≤1000*(p.2.length+2)+(ns.map fun n=>wt (ps.find? (fun p=>p.1==n))).sum:=by
   intro ns
   induction ns with
   | nil=>intro _;simp
   | cons n r ihr=>
    intro hp
    obtain⟨hp1,hp2⟩:=List.pairwise_cons.1 hp
    simp only[List.map_cons,List.sum_cons,List.find?_cons]
    by_cases he:p.1=n
    ·have hr:(r.map fun n=>wt ((p::ps).find? (fun p=>p.1==n)))=(r.map fun n=>wt (ps.find? (fun p=>p.1==n))):=by
      apply List.map_congr_left
      intro q hq
      have:(p.1==q)=false:=by simp;rw[he];exact hp1 q hq
      rw[List.find?_cons,this]
     simp only[List.find?_cons] at hr
     rw[hr]
     simp[he,wt]
    ·have hb:(p.1==n)=false:=by simp[he]
     have:=ihr hp2
     simp only[List.find?_cons] at this
     rw[hb]
     simp only
     omega
  have h2:=key ns hn
  simp only[List.map_cons,List.sum_cons]
  omega
theorem yK:∀ {f last:Nat} {d:List UInt8} {ps:List (Nat × List UInt8)},kD f last d=some ps→(ps.map fun p=>1000*(p.2.length+2)).sum≤1000*d.length
 | f,last,d,ps,h=>by
  rw[vF] at h
  split at h
  ·simp only[Option.some.injEq] at h
   subst h;simp
  ·cases f with
   | zero=>cases h
   | succ f=>
    obtain⟨x,hx,h⟩:=Option.bind_eq_some_iff.1 h
    obtain⟨y,hy,h⟩:=Option.bind_eq_some_iff.1 h
    split at h
    ·obtain⟨o,ho,rfl⟩:=Option.map_eq_some_iff.1 h
     have h1:=kV (n:=x.1) (r:=x.2) hx
     have h2:=tJ (v:=y.1) (r:=y.2) hy
     have h3:=yK ho
     simp only[List.map_cons,List.sum_cons]
     omega
    ·cases h
theorem J5(ps:List (Nat × List UInt8)):1000*ps.length≤(ps.map fun p=>1000*(p.2.length+2)).sum:=by
 induction ps with
 | nil=>simp
 | cons p r ih=>simp only[List.map_cons,List.sum_cons,List.length_cons];omega
structure MG(s:Nat)(ps:List (Nat × List UInt8))(fs:List bI)(j:Nat):Prop where
 out:s≤1+((fs.take j).map fun f=>wt (ps.find? (fun p=>p.1==f.number.toNat))).sum
theorem VB(l:List Nat)(j:Nat):(l.take j).sum≤l.sum:=by
 induction l generalizing j with
 | nil=>simp
 | cons x r ih=>cases j with
  | zero=>simp
  | succ j=>simp;exact ih j
theorem MG.all{s:Nat}{ps:List (Nat × List UInt8)}{fs:List bI}{j:Nat}{d:List UInt8}(h:MG s ps fs j)(hd:jr d=some ps)(hf:abG fs):s≤1+1000*d.length:=by
 have h1:=h.out
 rw[List.map_take] at h1
 have h2:=VB (fs.map fun f=>wt (ps.find? (fun p=>p.1==f.number.toNat))) j
 have h3:(fs.map fun f=>wt (ps.find? (fun p=>p.1==f.number.toNat))).sum≤(ps.map fun p=>1000*(p.2.length+2)).sum:=by
  have:=abL (ps:=ps) (ns:=fs.map fun f=>f.number.toNat) (List.pairwise_map.2 (List.Pairwise.imp_of_mem (fun {a b} ha hb hab=>by
   have:=hf.num a ha
   have:=hf.num b hb
   omega) hf.ne))
  rw[List.map_map] at this
  exact this
 have h4:=yK (show kD d.length 0 d=some ps from hd)
 omega
theorem MG.next{s j m:Nat}{ps:List (Nat × List UInt8)}{fs:List bI}{p:Nat × List UInt8}(h:MG s ps fs j)(ht:(fs.take (j+1)).map (fun f=>wt (ps.find? (fun p=>p.1==f.number.toNat)))=(fs.take j).map (fun f=>wt (ps.find? (fun p=>p.1==f.number.toNat)))++[wt (ps.find? (fun p=>p.1==m))])(hp:ps.find? (fun p=>p.1==m)=some p):MG (s+1000*(p.2.length+2)) ps fs (j+1):=by
 refine⟨?_⟩
 rw[ht,List.sum_append,hp]
 have h1:=h.out
 have h2:[wt (some p)].sum=1000*(p.2.length+2):=by simp[wt]
 rw[h2]
 omega
theorem pF.aeR{w w':World}{v:Value}{L:List UInt8}(h:pF w' v L)(hb:Below w.heap.size w w')(hk:∀ k,v.ownBlock=some k→k<w.heap.size):pF w v L:=by
 refine⟨?_,h.2⟩
 rcases h.1 with h1 | ⟨a,c,rfl,hc⟩
 ·exact Or.inl h1
 ·refine Or.inr ⟨a,c,rfl,fun j x hx=>?_⟩
  have h1:=hc j x hx
  have h2:(a.add j).block=a.block:=by unfold Addr.add;split<;>rfl
  rw[hb.cell (p:=a.add j) (by rw[h2];exact hk a.block rfl)] at h1
  exact h1
theorem Vo.df{w w':World}{lo Fa db:Nat}{pv lv v:Value}{p:Option Addr}{ps:List (Nat × List UInt8)}(h:Vo w lo Fa pv ps)(hf:DF db Fa w w')(hc:Dc w db lv p v)(hd:Fa≤db)(hl:Fa≤w.heap.size):Vo w' lo Fa pv ps:=by
 obtain⟨us,h1,h2,h3⟩:=h
 refine⟨us,h1,hf.own h2 (by decide) (fun g hg=>dM h2 hc.seg (by decide) hg),fun i x q hx hq=>?_⟩
 obtain⟨k1,k2,k3⟩:=h3 i x q hx hq
 exact⟨k1,k2.same (hf.below hd hl) k3,k3⟩
theorem abM{us:List (Nat × Value)}{ps:List (Nat × List UInt8)}(hl:us.length=ps.length)(hr:∀ (i:Nat) (x:Nat × Value) (p:Nat × List UInt8),us[i]? = some x→ps[i]? = some p→x.1=p.1)(m:Nat):
  (rY us m = -1∧ps.find? (fun p=>p.1==m)=none)∨∃ (k:Nat) (x:Nat × Value) (p:Nat × List UInt8),rY us m=(k:Int)∧us[k]? = some x∧ps[k]? = some p∧ps.find? (fun p=>p.1==m)=some p:=by
 have hmap:us.map (·.1)=ps.map (·.1):=by
  apply List.ext_getElem?
  intro i
  rw[List.getElem?_map,List.getElem?_map]
  rcases Nat.lt_or_ge i us.length with hi | hi
  ·have hi2:i<ps.length:=by omega
   have:=hr i us[i] ps[i] (List.getElem?_eq_getElem hi) (List.getElem?_eq_getElem hi2)
   rw[List.getElem?_eq_getElem hi,List.getElem?_eq_getElem hi2];simp[this]
  ·rw[List.getElem?_eq_none hi,List.getElem?_eq_none (by omega)];rfl
 have hidx:us.findIdx? (fun x=>x.1==m)=ps.findIdx? (fun x=>x.1==m):=by
  have e1:us.findIdx? (fun x=>x.1==m)=(us.map (·.1)).findIdx? (fun n=>n==m):=by rw[List.findIdx?_map];rfl
  have e2:ps.findIdx? (fun x=>x.1==m)=(ps.map (·.1)).findIdx? (fun n=>n==m):=by rw[List.findIdx?_map];rfl
  rw[e1,e2,hmap]
 unfold rY
 rw[hidx]
 cases e:ps.findIdx? (fun x=>x.1==m) with
 | none=>
  refine Or.inl ⟨rfl,?_⟩
  rw[List.findIdx?_eq_none_iff] at e
  rw[List.find?_eq_none]
  intro x hx
  have:=e x hx
  simp at this ⊢;exact this
 | some k=>
  obtain⟨hlt,hm,hall⟩:=List.findIdx?_eq_some_iff_getElem.1 e
  have hlu:k<us.length:=by omega
  refine Or.inr ⟨k,us[k],ps[k],rfl,List.getElem?_eq_getElem hlu,List.getElem?_eq_getElem hlt,?_⟩
  rw[List.find?_eq_some_iff_getElem]
  exact⟨hm,k,hlt,rfl,fun j hj=>by have:=hall j hj;simpa using this⟩
theorem VD{X:List aO}{n:Nat}(hn6:n≤6)(hV:Vq X n)(hLs:Vr X n):abH X (n+1):=by
 intro w0 w db lo la ll lc v dv L d fv fs hI hd hE hb hdb h hdl hF hO hfs
 obtain⟨da,dc,hdv⟩:∃ a c,dv=.slice a d.length c:=hd.1.slice
 subst hdv
 obtain⟨fa,fc,hfv⟩:∃ a c,fv=.slice a fs.length c:=ay hO
 subst hfv
 obtain⟨dd,hdd⟩:∃ dd:Int,dd=(7:Int)-((n+1:Nat):Int):=⟨_,rfl⟩
 rw[← hdd]
 have HDD:=hid (show dd+1=(7:Int)-n by omega)
 have hd6:¬ (6:Int)<dd:=by omega
 have anw:decide ((6:Int)<dd)=false:=by simpa using hd6
 have hdl0:(0:Int)≤dd:=by omega
 have hwd:IntKind.i64.wrap (dd+1)=dd+1:=by rw[IntKind.wrap_i64];omega
 clear hdd
 have H:=hid h
 have HI:=hid hI
 have HE:=hid hE
 have HV:=hid hV
 have HLS:=hid hLs
 have HD:=hid hd
 have Fe:=hid (hd.later hb)
 have HLT:=hid hd.1.lt
 have HO:=hid hO
 have EN:=hid hfs
 have vw:=hid hdl
 have hz:=hb.size
 clear h hI hE hV hLs hd hO hfs hdl
 obtain⟨G,hG⟩:∃ G,kN X (n+1) (fs.map Ah) d=G:=⟨_,rfl⟩
 rw[hG]
 have HG:=hid (show G=(jr d).bind fun ps=>(fieldsD (decP X n).1 (decP X n).2 ps (fs.map Ah) true).map fun o=>123::o by rw[← hG];rfl)
 clear hG
 go_enter func239,ntmps239
 go_wp2_with fail
 refine(zG w w0.heap.size _ d Fe.out (by have:=vw.out;omega) HLT.out hz).mono ?_;rintro e w1 ⟨pa,pl,pc,ok,rfl,hb1,hans⟩
 have H1:=hid (H.out.below hb1)
 cases ok with
 | false=>
  have HN:=hid (show G=none by rw[HG.out,show jr d=none from hans];rfl)
  clear hans
  go_wp2_with fail
  go_ret
  unfold jl
  exact⟨false,v,[],rfl,by simpa using H1.out,DF.bG _ hb1,by simp,HN.out⟩
 | true=>
  obtain⟨ps,hps,rfl,aeS⟩:∃ ps,jr d=some ps∧pl=ps.length∧Vo w1 w.heap.size w0.heap.size (.slice pa pl pc) ps:=hans
  have HPS:=hid hps
  have HPT:=hid aeS
  have HGF:=hid (show OH G (decP X n).1 (decP X n).2 ps (fs.map Ah) 0 true [123] by rw[HG.out,hps];unfold OH;simp)
  have hz1:=hb1.size
  clear hps aeS
  go_wp2_with fail
  refine(fA _ db w0.heap.size _ v L 123 123 rfl H1.out (by have:=hF.out;omega) (by omega)).mono ?_;rintro e w2 ⟨rfl,v2,hd2,hf2⟩
  have HT2:=hid hd2
  have JR:=(DF.bG w0.heap.size hb1).trans hf2
  have HF2:=hid hf2
  clear hd2 hf2
  go_wp2_with fail
  go_loopg [11,13,14,32] fs.length (fun gk b11 x13 x14 i32 wr=>∃ (j:Nat) (first:Bool) (v':Value) (S:List UInt8),j+gk=fs.length∧i32=.int .i64 j∧b11=.string (Xu first)∧Hid (yH wr db w0.heap.size (.slice la ll lc) v' (L++S))∧MG S.length ps fs j∧DF db w0.heap.size w wr∧Hid (Vo wr w.heap.size w0.heap.size (.slice pa ps.length pc) ps)∧Hid (OH G (decP X n).1 (decP X n).2 ps (fs.map Ah) j first S))
  case atStart=>
   refine⟨0,true,v2,[123],by omega,rfl,rfl,hid HT2.out,⟨by simp⟩,JR,hid ?_,hid HGF.out⟩
   obtain⟨p1,_,hdc⟩:=H1.out.d
   exact HPT.out.df HF2.out hdc hdb (by omega)
  case round=>
   obtain⟨j,first,v',S,hj,rfl,rfl,HT,hMG,hdf,HP,HS⟩:=hrel
   have hbr:Below w0.heap.size w0 wr:=hb.trans (hdf.below hdb hz)
   have Rh:=hbr.size
   have HSL:=hid (hMG.all HPS.out EN.out)
   by_cases hlt:j<fs.length
   ·obtain⟨f,hf⟩:∃ f,fs[j]? = some f:=⟨fs[j],List.getElem?_eq_getElem hlt⟩
    have hfm:=List.mem_of_getElem? hf
    obtain⟨hn0,abJ⟩:=EN.out.num f hfm
    obtain⟨hm1,VA⟩:=EN.out.nm f hfm
    have HOr:=hid (aC HO.out (fun g hg=>hbr.block g (HO.out.lt g hg).2):wr.ownsRow lo 242 7 (.slice fa fs.length fc) fs.length (fs.flatMap dI))
    obtain⟨g,cap,hv,hgl,hgs,hsg⟩:=jG HOr.out hf
    obtain⟨rfl,rfl⟩:fa=some ⟨g,0,none⟩∧fc=cap:=by simpa using hv
    have Qm:=hid (aeL hf)
    have pz:=hid (show (fs.take (j+1)).map (fun f=>wt (ps.find? (fun p=>p.1==f.number.toNat)))=(fs.take j).map (fun f=>wt (ps.find? (fun p=>p.1==f.number.toNat)))++[wt (ps.find? (fun p=>p.1==f.number.toNat))] by rw[List.take_add_one,hf];simp)
    obtain⟨num,numAt,name,nameAt,shape,base,dG⟩:=f
    simp only at hn0 abJ hm1 VA
    obtain⟨fn,rfl⟩:∃ fn:Nat,num=(fn:Int):=⟨num.toNat,by omega⟩
    have c0:wr.cell? ⟨g,j*7,none⟩=some (.int .i64 fn):=hsg.cell (j:=0) rfl
    have c1:wr.cell? ⟨g,j*7+1,none⟩=some (.int .i64 numAt):=hsg.cell (j:=1) rfl
    have c2:wr.cell? ⟨g,j*7+2,none⟩=some (.string name):=hsg.cell (j:=2) rfl
    have c3:wr.cell? ⟨g,j*7+3,none⟩=some (.int .i64 nameAt):=hsg.cell (j:=3) rfl
    have c4:wr.cell? ⟨g,j*7+4,none⟩=some (.int .i64 shape):=hsg.cell (j:=4) rfl
    have c5:wr.cell? ⟨g,j*7+5,none⟩=some (.string base):=hsg.cell (j:=5) rfl
    have c6:wr.cell? ⟨g,j*7+6,none⟩=some (.int .i64 dG):=hsg.cell (j:=6) rfl
    have aij:=JZ first
    have HBL:=hid (JK first)
    have HKL:=hid (JY (Xu first) name)
    have HGK:=hid (show (j+1)+(gk-1)=fs.length by omega)
    have air:fs.length≤400:=EN.out.len
    obtain⟨us,hul,huo,hur⟩:=HP.out
    have Vp:=hid hul
    have HUO:=hid huo
    have HUR:=hid hur
    have ais:=hid (abM hul (fun i x p hx hp=>(hur i x p hx hp).1) fn)
    clear hsg hv hf hfm hul huo hur
    generalize hbw:Xu first=bw at *
    have HBW:=hid hbw
    clear hbw
    have hba:Below wr.heap.size wr (wr.alloc (.cells #[.int .i64 fn,.int .i64 numAt,.string name,.int .i64 nameAt,.int .i64 shape,.string base,.int .i64 dG] 242)):=(Below.refl _ _).alloc (Nat.le_refl _) _
    have hsa:Seg (wr.alloc (.cells #[.int .i64 fn,.int .i64 numAt,.string name,.int .i64 nameAt,.int .i64 shape,.string base,.int .i64 dG] 242)) wr.heap.size 242 0 [.int .i64 fn,.int .i64 numAt,.string name,.int .i64 nameAt,.int .i64 shape,.string base,.int .i64 dG]:=oN wr _ _
    have HSA:=hid hsa
    clear hsa
    have ait:=hid (show ∀ x∈us,∃ a l c,x.2=.slice a l c from fun x hx=>by
     obtain⟨q,hq,rfl⟩:=List.getElem_of_mem hx
     have hq2:q<ps.length:=by have:=Vp.out;omega
     obtain⟨_,h2,_⟩:=HUR.out q us[q] ps[q] (List.getElem?_eq_getElem hq) (List.getElem?_eq_getElem hq2)
     obtain⟨_,a,c,e,_⟩:=h2
     exact⟨a,_,c,e⟩)
    have aeT:us.length≤1000:=by
     have h1:=yK (show kD d.length 0 d=some ps from HPS.out)
     have h2:=J5 ps
     have h3:=vw.out
     have h4:=Vp.out
     omega
    go_wp2_with fail
    clear c0 c1 c2 c3 c4 c5 c6
    have HBA:=hid hba
    generalize (wr.alloc (.cells #[.int .i64 fn,.int .i64 numAt,.string name,.int .i64 nameAt,.int .i64 shape,.string base,.int .i64 dG] 242))=wa at *
    have aeU:wa.cell? ⟨wr.heap.size,0,none⟩=some (.int .i64 fn):=by have:=HSA.out.cell (j:=0) rfl;simpa using this
    refine(JX wa w.heap.size _ us fn wr.heap.size (aC HUO.out (fun g hg=>hba.block g (HUO.out.lt g hg).2)) ait.out aeT (by omega) aeU HSA.out.lt).mono ?_;rintro e w3 ⟨rfl,hb3⟩
    have YG:Below wr.heap.size wr w3:=hba.trans (hb3.mono hba.size)
    have Hq:=HSA.out.same (hb3.block _ HSA.out.lt)
    have HT3:=hid (HT.out.below YG)
    have iR:=hid (HP.out.below YG Rh)
    have yJ:=hdf.trans (DF.bG w0.heap.size YG)
    have d0:=Hq.cell (j:=0) rfl
    have d1:=Hq.cell (j:=1) rfl
    have d2:=Hq.cell (j:=2) rfl
    have d3:=Hq.cell (j:=3) rfl
    have d4:=Hq.cell (j:=4) rfl
    have d5:=Hq.cell (j:=5) rfl
    have d6:=Hq.cell (j:=6) rfl
    simp only[Nat.zero_add] at d0 d1 d2 d3 d4 d5 d6
    have abN:=hid Hq
    have hz3:=YG.size
    clear Hq aeU
    rcases ais.out with⟨hpf,hnf⟩ | ⟨k,x,p,hpf,hxu,hxp,hsf⟩
    ·rw[hpf]
     have HLK:=hid (HS.out.aeP Qm.out hnf)
     have HMG:=hid (show MG S.length ps fs (j+1) from⟨by rw[pz.out,List.sum_append];exact Nat.le_trans hMG.out (Nat.add_le_add_left (Nat.le_add_right _ _) 1)⟩)
     clear hpf hnf
     by_cases hsh:shape=1
     ·have HN:=hid (HLK.out.1 hsh)
      subst hsh
      go_wp2_with fail
      go_roundg (gk-1)
      case rel=>exact⟨j+1,first,v',S,HGK.out,by go_num,by rw[HBW.out],hid HT3.out,HMG.out,yJ,hid iR.out,hid HN.out⟩
      case measure=>have:=HGK.out;omega
     ·have HN:=hid (HLK.out.2 hsh)
      have aik:((shape:Int)==1)=false:=beq_eq_false_iff_ne.2 (fun e=>hsh (by omega))
      go_wp2_with fail
      go_ret
      unfold jl
      exact⟨false,v',S,rfl,HT3.out,yJ,by have h2:=HSL.out;omega,HN.out⟩
    ·rw[hpf]
     have HHV:=hid (HS.out.aeQ Qm.out hsf)
     have HMS:=hid (show S.length+1000*(p.2.length+2)≤1+1000*d.length from MG.all (MG.next hMG pz.out (by simpa using hsf)) HPS.out EN.out)
     have HMN:=hid (show ∀ q,q≤1000*(p.2.length+2)→MG (S.length+q) ps fs (j+1) from fun q hq=>⟨by have h1:=(MG.next hMG pz.out (show ps.find? (fun p=>p.1==((fn:Int)).toNat)=some p by simpa using hsf)).out;omega⟩)
     have hkl:k<us.length:=lQ hxu
     have hkz:¬ (k:Int)<0:=by omega
     have d2':w3.drew.cell? ⟨wr.heap.size,2,none⟩=some (.string name):=d2
     have aiv:(bw++name++ByteArray.mk #[58]).size≤402:=by rw[ByteArray.size_append,ByteArray.size_append];show bw.size+name.size+1≤402;omega
     obtain⟨key,HKEY⟩:∃ key,Hid (bw++name++ByteArray.mk #[58]=key):=⟨_,hid rfl⟩
     have HKT:=hid (show key.toList=Jy first++name.toList++[58] by rw[← HKEY.out,HKL.out,HBL.out];rfl)
     rw[HKEY.out] at aiv
     have HXU:=hid hxu
     have HXP:=hid hxp
     have hFw:(L++S).length≤900000000:=by rw[List.length_append];have h1:=hF.out;have h2:=HSL.out;omega
     have HFW:=hid hFw
     clear hpf hxu hxp hsf hFw
     go_wp2_with fail
     go_region_with (go_at_call 253;rw[HKEY.out];refine(jC _ db w0.heap.size _ v' (L++S) key (HT3.out.below (Below.refl _ _).drew) (by have:=HFW.out;omega) (by omega) (by show w0.heap.size≤w3.heap.size;omega)).mono ?_;rintro e w4 ⟨rfl,v4,hd4,hf4⟩;have HD4:=hid hd4;have Q9:=hid hf4;clear hd4 hf4)
     all_goals
      have abO:DF db w0.heap.size w3 w4:=(DF.bG _ (Below.refl _ _).drew).trans Q9.out
      have Eh:=yJ.trans abO
      obtain⟨p3,_,aeV⟩:=HT3.out.d
      have JE:=hid (iR.out.df abO aeV hdb (by omega))
      have hne:wr.heap.size≠db:=by have:=HT.out.lt;omega
      have nI:Seg w4 wr.heap.size 242 0 [.int .i64 fn,.int .i64 numAt,.string name,.int .i64 nameAt,.int .i64 shape,.string base,.int .i64 dG]:=abN.out.same (abO.block _ abN.out.lt hne (Or.inr (by obtain⟨cur,hcur,_⟩:=abN.out;exact⟨cur,_,hcur,by decide⟩)))
      clear d0 d1 d2 d3 d4 d5 d6 d2' aeV
      have d0:=nI.cell (j:=0) rfl
      have d1:=nI.cell (j:=1) rfl
      have d2:=nI.cell (j:=2) rfl
      have d3:=nI.cell (j:=3) rfl
      have d4:=nI.cell (j:=4) rfl
      have d5:=nI.cell (j:=5) rfl
      have d6:=nI.cell (j:=6) rfl
      simp only[Nat.zero_add] at d0 d1 d2 d3 d4 d5 d6
      obtain⟨us4,aix,aeW,aeX⟩:=JE.out
      have hk4:k<us4.length:=by have:=Vp.out;omega
      have hkp:k<ps.length:=by have:=Vp.out;omega
      obtain⟨y,hy⟩:∃ y,us4[k]? = some y:=⟨us4[k],List.getElem?_eq_getElem hk4⟩
      obtain⟨hy1,hy2,hy3⟩:=aeX k y p hy HXP.out
      obtain⟨ya,yc,hyv⟩:∃ a c,y.2=.slice a p.2.length c:=hy2.1.slice
      obtain⟨pg,aiy,hpv,anG,anH,aeY⟩:=JV aeW hy
      rw[aix] at hpv
      obtain⟨rfl,rfl⟩:pa=some ⟨pg,0,none⟩∧pc=aiy:=by simpa using hpv
      have e1:w4.cell? ⟨pg,k*2+1,none⟩=some (.slice ya p.2.length yc):=by have:=aeY.cell (j:=1) rfl;rw[← hyv];exact this
      have LH:Below w0.heap.size w0 w4:=hb.trans (Eh.below hdb hz)
      have HY0:=hid (show pF w0 (.slice ya p.2.length yc) p.2 from by
       have h1:=hy2
       have h3:=hy3
       rw[hyv] at h1 h3
       exact h1.aeR LH h3)
      have hkI:(0:Int)≤(k:Int):=by omega
      have anJ:(k:Int)<(ps.length:Int):=by omega
      clear hpv aeY hy hy1 hy2 aeX aeW
      have q0:w4.drew.cell? ⟨wr.heap.size,0,none⟩=some (.int .i64 fn):=d0
      have q1:w4.drew.cell? ⟨wr.heap.size,1,none⟩=some (.int .i64 numAt):=d1
      have q2:w4.drew.cell? ⟨wr.heap.size,2,none⟩=some (.string name):=d2
      have q3:w4.drew.cell? ⟨wr.heap.size,3,none⟩=some (.int .i64 nameAt):=d3
      have q4:w4.drew.cell? ⟨wr.heap.size,4,none⟩=some (.int .i64 shape):=d4
      have q5:w4.drew.cell? ⟨wr.heap.size,5,none⟩=some (.string base):=d5
      have q6:w4.drew.cell? ⟨wr.heap.size,6,none⟩=some (.int .i64 dG):=d6
      have e1':w4.drew.cell? ⟨pg,k*2+1,none⟩=some (.slice ya p.2.length yc):=e1
      go_wp2_with fail
      go_region_with (go_at_call 259;refine(MO HV.out HLS.out w0 _ db lo la ll lc v4 _ (L++S++key.toList) p.2 ⟨(fn:Int),numAt,name,nameAt,shape,base,dG⟩ (dd+1) HDD.out HI.out HY0.out HE.out LH.drew hdb (HD4.out.below (Below.refl _ _).drew) (by have h1:=HMS.out;have h2:=vw.out;omega) ⟨by rw[List.length_append,List.length_append,aF];have h1:=hF.out;have h2:=HMS.out;omega⟩).mono ?_;rintro e w5 ⟨ok5,v5,S5,rfl,hd5,hf5,hl5,aeZ⟩;have HD5:=hid hd5;have HF5:=hid hf5;have HL5:=hid hl5;have ae0:=hid aeZ;clear hd5 hf5 hl5 aeZ)
      all_goals
       have ae1:DF db w0.heap.size w4 w5:=(DF.bG _ (Below.refl _ _).drew).trans HF5.out
       have ae2:=Eh.trans ae1
       have ae3:=hid (show yH w5 db w0.heap.size (.slice la ll lc) v5 (L++(S++key.toList++S5)) by have:=HD5.out;simpa[List.append_assoc] using this)
       have HSB:=hid (show (S++key.toList++S5).length≤1+1000*d.length by rw[List.length_append,List.length_append,aF];have h1:=HMS.out;have h2:=HL5.out;omega)
       cases ok5 with
       | false=>
        have HN:=hid (HHV.out.1 (by have:=ae0.out;simp only[Ah] at this ⊢;split at this<;>simp_all))
        have aiA:=hid (show jl G w db w0.heap.size (.slice la ll lc) L (1000*(d.length+1)) (.returned (.bool false)) w5 from⟨false,v5,S++key.toList++S5,rfl,ae3.out,ae2,by have h1:=HSB.out;omega,HN.out⟩)
        go_wp2_with fail
        go_ret
        exact aiA.out
       | true=>
        have HN:=hid (HHV.out.2 S5 (by have:=ae0.out;simp only[Ah] at this ⊢;split at this<;>simp_all))
        obtain⟨p4,_,ae4⟩:=HD4.out.d
        have Ad:=hid (JE.out.df ae1 ae4 hdb (by have:=LH.size;omega))
        have HMJ:=hid (HMN.out (key.size+S5.length) (by have:=HL5.out;omega))
        clear ae4
        go_wp2_with fail
        go_roundg (gk-1)
        case rel=>exact⟨j+1,false,v5,S++key.toList++S5,HGK.out,by go_num,rfl,hid ae3.out,by have:=HMJ.out;rw[List.length_append,List.length_append,aF,Nat.add_assoc];exact this,ae2,hid Ad.out,hid (by have:=HN.out;rw[HKT.out];exact this)⟩
        case measure=>have h1:=HGK.out;have h2:=hlt;omega
   ·have zV:=hid (HS.out.shut (by rw[List.length_map];omega))
    go_wp2_with fail
    refine(fA _ db w0.heap.size _ v' (L++S) 125 125 rfl HT.out (by rw[List.length_append];have h1:=hF.out;have h2:=HSL.out;omega) Rh).mono ?_;rintro e w3 ⟨rfl,v3,hd3,hf3⟩
    have HD3:=hid hd3
    have yJ:=hdf.trans hf3
    clear hd3 hf3
    go_wp2_with fail
    go_ret
    unfold jl
    exact⟨true,v3,S++[125],rfl,by rw[← List.append_assoc];exact HD3.out,yJ,by rw[List.length_append,List.length_singleton];have h2:=HSL.out;omega,zV.out⟩
end Go.Proofs.YtolfcabodiphmaaGreatDoor

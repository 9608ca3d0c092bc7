/- Package courierref: readMessage. -/
import Derived.Test.YtopcgnjocklcoaaGreatDoorMRDecB
namespace Go.Proofs.YtopcgnjocklcoaaGreatDoor
open Go.RowKit
def rmspec (Y:List IV):Nat → List FD → List UInt8 → Txt
 | 0=>fun _ _=>none
 | n + 1=>msgD (rdR Y n).1 (rdR Y n).2
theorem rdR_val (Y:List IV) (n:Nat):(rdR Y n).1 = valD (tyR Y) (rmspec Y n):=by cases n <;> rfl
def RMs (Y:List IV) (n:Nat):Prop:=∀ (w:World) (lo:Nat) (la:Option Addr) (ll lc:Nat) (dv:Value) (d:List UInt8),Its w lo (.slice la ll lc) Y → Env w → RdC w dv d → (∀ k,dv.ownBlock = some k → k < w.heap.size) → d.length ≤ 64 → d.length < n → ∀ (q:Nat) (y:IV),Y[q]? = some y → ∀ (fa na za ba xa:Option Addr) (fc nl nc zl zc bl bc xl xc:Nat),y.vf = .slice fa y.it.fields.length fc →
 Calls Tryz.prog 65 #[.slice la ll lc,.agg #[.string y.it.kind,.string y.it.name,.int .i64 y.it.nameAt,.slice fa y.it.fields.length fc,.slice na nl nc,.slice za zl zc,.slice ba bl bc,.slice xa xl xc],dv] w (RdPost (rmspec Y n (y.it.fields.map fdR) d) w d.length)
def PFst (d:List UInt8) (last:Nat) (D:List UInt8) (ps:List (Nat × List UInt8)) (ok:Bool):Prop:=match ok with
 | true=>∃ f,PtAt d f last D ps
 | false=>partsD d = none
def lastN (ps:List (Nat × List UInt8)):Nat:=match ps.getLast? with | none=>0 | some p=>p.1
theorem lastN_snoc (ps:List (Nat × List UInt8)) (p:Nat × List UInt8):lastN (ps ++ [p]) = p.1:=by simp [lastN]
theorem PFst.next {d:List UInt8} {last n:Nat} {D R V R2:List UInt8} {ps:List (Nat × List UInt8)} {ok1 ok2:Bool} (h:PFst d last D ps true) (h0:D ≠ []) (h1:NumAns true ok1 (takeV D) n R) (h2:SomeAns ok1 ok2 (takeC R) V R2):(last < n ∧ n ≤ 99 → PFst d n R2 (ps ++ [(n,V)]) ok2) ∧ (¬ (last < n ∧ n ≤ 99) → partsD d = none):=by
 obtain ⟨f,hf⟩:=h
 have hst:=hf.step h0
 have bad1:takeV D = none → partsD d = none:=fun e=>by rw [hst,e];rfl
 have bad2:ok1 = true → takeC R = none → partsD d = none:=fun e1 e=>by
  subst e1
  rw [hst,h1.2];simp only [Option.bind_some,e];rfl
 constructor
 ·intro hc
  cases ok2 with
  | true =>
   obtain ⟨e1,e2⟩:=h2
   subst e1
   exact ⟨f - 1,hf.next h0 h1.2 e2 hc⟩
  | false =>
   show partsD d = none
   cases ok1 with
   | false =>
    rcases h1 with h | h
    ·cases h
    ·exact bad1 h
   | true =>
    rcases h2 with h | h
    ·cases h
    ·exact bad2 rfl h
 ·intro hc
  cases ok1 with
  | false =>
   rcases h1 with h | h
   ·cases h
   ·exact bad1 h
  | true =>
   cases hR:takeC R with
   | none=>exact bad2 rfl hR
   | some y=>rw [hst,h1.2];simp only [Option.bind_some,hR,if_neg hc];rfl
theorem TkD.grew {w w':World} {tb dlo lo n:Nat} {v pv pv':Value} {R:List UInt8} {ok:Bool} {xs:List Value} (h:TkD w tb dlo v R ok) (hrow:w.ownsRow lo 182 2 pv n xs) (hg:Grew w w' pv pv') (hlo:dlo ≤ lo) (hd:dlo ≤ tb):TkD w' tb dlo v R ok:=by
 have hlt:=h.seg.lt
 refine ⟨h.seg.same (hg.g.block tb hlt (fun e=>own_seg_ne hrow h.seg (by decide) e.symm rfl)),h.r.same (B:=dlo) (hg.below (fun k hk=>Nat.le_trans hlo (hrow.lt k hk).1) (by omega)) h.b,h.b⟩
theorem seg_grew {w w':World} {b lo n:Nat} {pv pv':Value} {xs ys:List Value} (h:Seg w b 96 0 ys) (hrow:w.ownsRow lo 182 2 pv n xs) (hg:Grew w w' pv pv'):Seg w' b 96 0 ys :=
 h.same (hg.g.block b h.lt (fun e=>own_seg_ne hrow h (by decide) e.symm rfl))
set_option maxRecDepth 100000 in
set_option maxHeartbeats 8000000 in
theorem readMessage_any {Y:List IV} {n:Nat} (hV:RRd Y n) (hL:RLd Y n) (hY:YOk Y) (hN:∀ y ∈ Y,y.it.fields.Pairwise fun f g=>f.number < g.number):RMs Y (n + 1):=by
 intro w lo la ll lc dv d hI hE hd hdb hdl hdn q y hy fa na za ba xa fc nl nc zl zc bl bc xl xc hvf
 obtain ⟨da,dc,hdv,hdc⟩:=hd.2
 subst hdv
 have hymem:=List.mem_of_getElem? hy
 have hrow:=(hI.nest y hymem).f
 rw [hvf] at hrow
 have hfl:=hY.fl y hymem
 generalize hkd:y.it.kind = kd
 generalize hnm:y.it.name = nm
 generalize hnA:y.it.nameAt = nA
 generalize hfs:y.it.fields = fs at *
 have HYb:=hid (show ∀ f ∈ fs,typeB Y f.base.toList = true by rw [← hfs];exact hY.b y hymem)
 have HYn:=hid (show ∀ f ∈ fs,0 ≤ f.number ∧ f.number ≤ 99 by rw [← hfs];exact hY.n y hymem)
 have HYs:=hid (show ∀ f ∈ fs,1 ≤ f.name.size ∧ f.name.size ≤ 400 by rw [← hfs];exact hY.s y hymem)
 have HNP:=hid (show (fs.map fun f=>f.number.toNat).Pairwise (· ≠ ·) by
  rw [List.pairwise_map]
  have h1:=hN y hymem
  rw [hfs] at h1
  exact h1.imp_of_mem (fun {a b} ha hb hab=>by have h2:=HYn.out a ha;have h3:=HYn.out b hb;omega))
 clear hfs hkd hnm hnA hvf hymem hy hY hN
 obtain ⟨G,hG⟩:∃ G,rmspec Y (n + 1) (fs.map fdR) d = G:=⟨_,rfl⟩
 rw [hG]
 have HG:=hid (show G = (partsD d).bind fun ps=>(fieldsD (rdR Y n).1 (rdR Y n).2 ps (fs.map fdR) true).map fun o=>123 :: o by rw [← hG];rfl)
 clear hG
 have HROW:=hid hrow
 have HI:=hid hI
 have HE:=hid hE
 have HV:=hid hV
 have HL:=hid hL
 have hbA:Below w.heap.size w ((w.alloc (.cells #[.string kd,.string nm,.int .i64 nA,.slice fa fs.length fc,.slice na nl nc,.slice za zl zc,.slice ba bl bc,.slice xa xl xc] 96)).alloc (.cells #[.slice da d.length dc,.bool true] 124)):=((Below.refl _ _).alloc (Nat.le_refl _) _).alloc (by simp) _
 have HT0:=hid (show TkD ((w.alloc (.cells #[.string kd,.string nm,.int .i64 nA,.slice fa fs.length fc,.slice na nl nc,.slice za zl zc,.slice ba bl bc,.slice xa xl xc] 96)).alloc (.cells #[.slice da d.length dc,.bool true] 124)) (w.heap.size + 1) w.heap.size (.slice da d.length dc) d true from ⟨by have:=seg_made (w.alloc (.cells #[.string kd,.string nm,.int .i64 nA,.slice fa fs.length fc,.slice na nl nc,.slice za zl zc,.slice ba bl bc,.slice xa xl xc] 96)) #[.slice da d.length dc,.bool true] 124;simpa using this,hd.later hbA,hdb⟩)
 have HS0:=hid (show Seg ((w.alloc (.cells #[.string kd,.string nm,.int .i64 nA,.slice fa fs.length fc,.slice na nl nc,.slice za zl zc,.slice ba bl bc,.slice xa xl xc] 96)).alloc (.cells #[.slice da d.length dc,.bool true] 124)) w.heap.size 96 0 [.string kd,.string nm,.int .i64 nA,.slice fa fs.length fc,.slice na nl nc,.slice za zl zc,.slice ba bl bc,.slice xa xl xc] from (seg_made w #[.string kd,.string nm,.int .i64 nA,.slice fa fs.length fc,.slice na nl nc,.slice za zl zc,.slice ba bl bc,.slice xa xl xc] 96).same (((Below.refl _ _).alloc (Nat.le_refl _) _).block _ (by simp)))
 clear hI hE hV hL hrow hd hdb
 go_enter Tryz.func65,Tryz.ntmps65
 go_wp2_with fail
 generalize ((w.alloc (.cells #[.string kd,.string nm,.int .i64 nA,.slice fa fs.length fc,.slice na nl nc,.slice za zl zc,.slice ba bl bc,.slice xa xl xc] 96)).alloc (.cells #[.slice da d.length dc,.bool true] 124)) = w0 at *
 go_loopg [9,10,11] (d.length + 1) (fun gk f9 x10 x11 wr=>∃ (D:List UInt8) (a:Option Addr) (c:Nat) (ok:Bool) (ps:List (Nat × List UInt8)) (pa:Option Addr) (pc:Nat),f9 = .slice pa ps.length pc ∧ ps.length + gk = d.length + 1 ∧ Hid (TkD wr (w.heap.size + 1) w.heap.size (.slice a D.length c) D ok) ∧ Hid (ok = true → D.length < gk) ∧ Hid (D.length ≤ d.length) ∧ Hid (RPts wr w.heap.size w.heap.size (.slice pa ps.length pc) ps) ∧ Hid (PFst d (lastN ps) D ps ok) ∧ Hid (Seg wr w.heap.size 96 0 [.string kd,.string nm,.int .i64 nA,.slice fa fs.length fc,.slice na nl nc,.slice za zl zc,.slice ba bl bc,.slice xa xl xc]) ∧ Below w.heap.size w wr)
 case atStart=>exact ⟨d,da,dc,true,[],none,0,rfl,by simp,hid HT0.out,hid (fun _=>by omega),hid (Nat.le_refl _),hid ⟨[],rfl,World.ownsRow_nil _ _ _ _,fun i x p hx=>by simp at hx⟩,hid ⟨d.length,PtAt.begin d⟩,hid HS0.out,hbA⟩
 case round =>
  obtain ⟨D,a,c,ok,ps,pa,pc,rfl,hpl,HT,HDg,HDd,HP,HPF,HSI,hbel⟩:=hrel
  have hzr:=hbel.size
  have htl:=HT.out.seg.lt
  have c0:=HT.out.seg.cell (j:=0) rfl
  have c1:=HT.out.seg.cell (j:=1) rfl
  have i3:=HSI.out.cell (j:=3) rfl
  simp only [Nat.zero_add] at c0 c1 i3
  cases ok with
  | false =>
   have HN:=hid (show G = none by rw [HG.out,show partsD d = none from HPF.out];rfl)
   go_wp2_with fail
   go_loopg [12,13,14,15,16,17,18] 0 (fun gk2 s12 k13 x14 x15 x16 x17 x18 wq=>s12 = .string (ByteArray.mk #[123]) ∧ k13 = .int .i64 0 ∧ wq = wr)
   case atStart=>exact ⟨rfl,rfl,rfl⟩
   case round =>
    obtain ⟨rfl,rfl,rfl⟩:=hrel
    by_cases hfl0:0 < fs.length
    ·have hflI:(0:Int) < (fs.length:Int):=by omega
     go_wp2_with fail
     (first | (go_region) | fail)
     all_goals
      go_wp2_with fail
      go_ret2
      unfold RdPost
      exact ⟨ByteArray.mk #[123] ++ ByteArray.mk #[125],false,rfl,hbel.drew,⟨by rw [ByteArray.size_append];show 1 + 1 ≤ 1000 * d.length + 500;omega⟩,HN.out⟩
    ·have hflI:¬ (0:Int) < (fs.length:Int):=by omega
     have hflD:decide ((0:Int) < (fs.length:Int)) = false:=decide_eq_false hflI
     go_wp2_with fail
     (first | (go_region) | fail)
     all_goals
      go_wp2_with fail
      go_ret2
      unfold RdPost
      exact ⟨ByteArray.mk #[123] ++ ByteArray.mk #[125],false,rfl,hbel.drew,⟨by rw [ByteArray.size_append];show 1 + 1 ≤ 1000 * d.length + 500;omega⟩,HN.out⟩
  | true =>
   by_cases hD0:D.length = 0
   ·have hD0I:¬ (0:Int) < (D.length:Int):=by omega
    have HPS:=hid (show partsD d = some ps by
     obtain ⟨f,hf⟩:=HPF.out
     rw [List.eq_nil_of_length_eq_zero hD0] at hf
     exact hf.done)
    have HRISE:=hid ((parts_rise (show partsGo d.length 0 d = some ps from HPS.out)).2)
    have hpsl:ps.length ≤ 65:=by omega
    have HM0:=hid (show MSt G (rdR Y n).1 (rdR Y n).2 ps (fs.map fdR) 0 [123] true from by show G = _;rw [HG.out,HPS.out];rfl)
    obtain ⟨wa,hwa⟩:∃ wa,wa = wr:=⟨_,rfl⟩
    subst hwa
    go_wp2_with fail
    go_loopg [12,13,14,15,16,17,18] fs.length (fun gk2 s12 k13 x14 x15 x16 x17 x18 wq=>∃ (j:Nat) (S:ByteArray) (ok:Bool),j + gk2 = fs.length ∧ s12 = .string S ∧ k13 = .int .i64 j ∧ Hid (TkD wq (w.heap.size + 1) w.heap.size (.slice a D.length c) D ok) ∧ Hid (MSt G (rdR Y n).1 (rdR Y n).2 ps (fs.map fdR) j S.toList ok) ∧ MR S.size ps (fs.map fun f=>f.number.toNat) j ∧ 1 ≤ S.size ∧ But (w.heap.size + 1) wa wq)
    case atStart=>exact ⟨0,ByteArray.mk #[123],true,by omega,rfl,rfl,hid HT.out,hid (by rw [openB];exact HM0.out),⟨by show 1 ≤ _;omega⟩,by decide,But.refl _ _⟩
    case round =>
     obtain ⟨j,S,ok,hj,rfl,rfl,HTo,HM,HMR,hS1,hbuto⟩:=hrel
     obtain ⟨wo,hwo⟩:∃ wo,wo = wr:=⟨_,rfl⟩
     subst hwo
     obtain ⟨gko,hgko⟩:∃ g,g = gk:=⟨_,rfl⟩
     subst hgko
     have hbelo:Below w.heap.size w wo:=hbuto.below hbel (by omega) (Nat.le_refl _)
     have hzo:=hbelo.size
     have HSo:=hid (HSI.out.same (hbuto.block _ HSI.out.lt (by omega)))
     have hSall:=HMR.all HPS.out HNP.out
     have htlo:=HTo.out.seg.lt
     have c1:=HTo.out.seg.cell (j:=1) rfl
     have i3:=HSo.out.cell (j:=3) rfl
     simp only [Nat.zero_add] at c1 i3
     have hov1:¬ 9223372036854775807 < S.size + 1:=by omega
     by_cases hlt:j < fs.length
     ·have hltI:(j:Int) < (fs.length:Int):=by omega
      cases ok with
      | false =>
       have HLS:=hid (HM.out.last (fun h=>by cases h))
       go_wp2_with fail
       (first | (go_region) | fail)
       all_goals
        go_wp2_with fail
        go_ret2
        unfold RdPost
        exact ⟨S ++ ByteArray.mk #[125],false,rfl,hbelo.drew,⟨by rw [ByteArray.size_append];show S.size + 1 ≤ _;omega⟩,HLS.out⟩
      | true =>
       obtain ⟨f,hf⟩:∃ f,fs[j]? = some f:=⟨fs[j],List.getElem?_eq_getElem hlt⟩
       have hfm:=List.mem_of_getElem? hf
       obtain ⟨gf,capf,hvf,hgfl,hgfs,hsf⟩:=rfield_seg (own_same HROW.out (fun q hq=>hbelo.block q (HROW.out.lt q hq).2)) hf
       obtain ⟨rfl,rfl⟩:fa = some ⟨gf,0,none⟩ ∧ fc = capf:=by simpa using hvf
       have d0:wo.cell? ⟨gf,j * 7,none⟩ = some (.int .i64 f.number):=hsf.cell (j:=0) rfl
       have d1:wo.cell? ⟨gf,j * 7 + 1,none⟩ = some (.string f.name):=hsf.cell (j:=1) rfl
       have d2:wo.cell? ⟨gf,j * 7 + 2,none⟩ = some (.string f.kind):=hsf.cell (j:=2) rfl
       have d3:wo.cell? ⟨gf,j * 7 + 3,none⟩ = some (.string f.base):=hsf.cell (j:=3) rfl
       have d4:wo.cell? ⟨gf,j * 7 + 4,none⟩ = some (.int .i64 f.numberAt):=hsf.cell (j:=4) rfl
       have d5:wo.cell? ⟨gf,j * 7 + 5,none⟩ = some (.int .i64 f.nameAt):=hsf.cell (j:=5) rfl
       have d6:wo.cell? ⟨gf,j * 7 + 6,none⟩ = some (.int .i64 f.baseAt):=hsf.cell (j:=6) rfl
       obtain ⟨fn,hfn⟩:∃ fn:Nat,f.number = (fn:Int):=⟨f.number.toNat,by have:=HYn.out f hfm;omega⟩
       have hfnN:fn ≤ 99:=by have:=HYn.out f hfm;omega
       have HSB:=hid (show Seg (wo.alloc (.cells #[.int .i64 f.number,.string f.name,.string f.kind,.string f.base,.int .i64 f.numberAt,.int .i64 f.nameAt,.int .i64 f.baseAt] 102)) wo.heap.size 102 0 [.int .i64 f.number,.string f.name,.string f.kind,.string f.base,.int .i64 f.numberAt,.int .i64 f.nameAt,.int .i64 f.baseAt] from seg_made wo _ _)
       have hbB:Below wo.heap.size wo (wo.alloc (.cells #[.int .i64 f.number,.string f.name,.string f.kind,.string f.base,.int .i64 f.numberAt,.int .i64 f.nameAt,.int .i64 f.baseAt] 102)):=(Below.refl _ _).alloc (Nat.le_refl _) _
       have HTB:=hid (HTo.out.below hbB (by omega))
       have HF':=hid (show (fs.map fdR)[j]? = some (fdR f) by rw [List.getElem?_map,hf];rfl)
       have HNJ:=hid (show (fs.map fun f=>f.number.toNat)[j]? = some fn by rw [List.getElem?_map,hf];simp [hfn])
       have HFN:=hid (show (fdR f).number = fn from by show f.number.toNat = fn;rw [hfn];rfl)
       have hfnS:=HYs.out f hfm
       have HFB:=hid (HYb.out f hfm)
       have HSEGN:=hid hfn
       clear hsf hvf hf hfn
       go_wp2_with fail
       clear d0 d1 d2 d3 d4 d5 d6
       generalize (wo.alloc (.cells #[.int .i64 f.number,.string f.name,.string f.kind,.string f.base,.int .i64 f.numberAt,.int .i64 f.nameAt,.int .i64 f.baseAt] 102)) = wb at *
       go_loopg [12,15,16,17,18] ps.length (fun gk3 s12 t15 i16 x17 x18 wq=>∃ (i:Nat) (S':ByteArray) (th ok':Bool),i + gk3 = ps.length ∧ s12 = .string S' ∧ t15 = .bool th ∧ i16 = .int .i64 i ∧ Hid (TkD wq (w.heap.size + 1) w.heap.size (.slice a D.length c) D ok') ∧ Hid (InSt G (rdR Y n).1 (rdR Y n).2 ps (fs.map fdR) (fs.map fun f=>f.number.toNat) j S S' i fn th ok') ∧ 1 ≤ S'.size ∧ But (w.heap.size + 1) wb wq)
       case atStart=>exact ⟨0,S,false,true,by omega,rfl,rfl,rfl,hid HTB.out,hid ⟨rfl,rfl,fun q x hq=>by omega⟩,hS1,But.refl _ _⟩
       case round =>
        obtain ⟨i,S',th,ok',hi,rfl,rfl,rfl,HTi,HIN,hS1',hbuti⟩:=hrel
        have hbuta:But (w.heap.size + 1) wa wr:=(hbuto.trans (But.ofBelow hbB)).trans hbuti
        have hbeli:Below w.heap.size w wr:=hbuta.below hbel (by omega) (Nat.le_refl _)
        have hzi:=hbeli.size
        have HSFi:=hid (HSB.out.same (hbuti.block _ HSB.out.lt (by omega)))
        have n0:wr.cell? ⟨wo.heap.size,0,none⟩ = some (.int .i64 (fn:Int)):=by rw [← HSEGN.out];exact HSFi.out.cell (j:=0) rfl
        have n1:wr.cell? ⟨wo.heap.size,1,none⟩ = some (.string f.name):=HSFi.out.cell (j:=1) rfl
        have n2:wr.cell? ⟨wo.heap.size,2,none⟩ = some (.string f.kind):=HSFi.out.cell (j:=2) rfl
        have n3:wr.cell? ⟨wo.heap.size,3,none⟩ = some (.string f.base):=HSFi.out.cell (j:=3) rfl
        have htli:=HTi.out.seg.lt
        have e1:=HTi.out.seg.cell (j:=1) rfl
        have ef1:=HTi.out.seg.frozen 1
        simp only [Nat.zero_add] at e1
        clear c1 i3
        by_cases hlti:i < ps.length
        ·have hltiI:(i:Int) < (ps.length:Int):=by omega
         cases ok' with
         | false =>
          cases th with
          | false=>exact absurd HIN.out.1 (by decide)
          | true =>
           obtain ⟨hm1,_,hm3⟩:=HIN.out
           have HM1:=hid hm1
           have HM3:=hm3
           clear hm1 hm3
           go_wp2_with fail
           go_roundg (gko - 1)
           case rel=>exact ⟨j + 1,S',false,by omega,rfl,by go_num,HTi,HM1,HM3,hS1',hbuta⟩
           case measure=>omega
         | true =>
          obtain ⟨p,hp⟩:∃ p,ps[i]? = some p:=⟨ps[i],List.getElem?_eq_getElem hlti⟩
          obtain ⟨g,gc,pva,pvc,hpv,hgl,hgs,hg0,hg1,hgr,hgb⟩:=(HP.out.but HT.out.seg hbuta (by omega)).at hp
          obtain ⟨rfl,rfl⟩:pa = some ⟨g,0,none⟩ ∧ pc = gc:=by simpa using hpv
          have HPI:=hid hp
          have HGR:=hid hgr
          have HGB:=hid hgb
          have hfu:IntKind.u64.wrap (fn:Int) = (fn:Int):=by rw [IntKind.wrap_u64];omega
          clear hpv hp hgr hgb
          by_cases hpn:p.1 = fn
          ·have hpnB:((p.1:Int) != (fn:Int)) = false:=by simp;omega
           have hpnE:((p.1:Int) == (fn:Int)) = true:=by simp;omega
           cases th with
           | true =>
            exfalso
            obtain ⟨_,⟨q,x,hq,hx,hxm⟩,_⟩:=HIN.out
            exact rise_ne HRISE.out hq hx hxm HPI.out hpn
           | false =>
            obtain ⟨_,hSS,hall⟩:=HIN.out
            subst hSS
            have HFI:=hid (show ps.find? (fun p=>p.1 == (fdR f).number) = some p from by rw [HFN.out];exact find_first HPI.out hpn hall)
            have HFI2:=hid (show ps.find? (fun p=>p.1 == fn) = some p from find_first HPI.out hpn hall)
            have hpl2:=part_len HPS.out (List.mem_of_getElem? HPI.out)
            have HEi:=hid (fun w' (hw':Below wr.heap.size wr w')=>HE.out.below (hbeli.trans (hw'.mono hzi)))
            have HIi:=hid (fun w' (hw':Below wr.heap.size wr w')=>HI.out.same (hbeli.trans (hw'.mono hzi)))
            clear hall
            cases hkl:(f.kind.toList == [108,105,115,116]) with
            | true =>
             have HSH:=hid (fdR_list hkl)
             have HCL:=hid (show ∀ w',Below wr.heap.size wr w' → Calls Tryz.prog 107 #[.slice la ll lc,.string f.base,.slice pva p.2.length pvc] w' (fun e w4=>∃ (t:ByteArray) (ok4:Bool),e = .returned (.tuple #[.string t,.bool ok4]) ∧ Below wr.heap.size wr w4 ∧ Room t.size p.2.length ∧ (match ok4 with | true=>(rdR Y n).2 f.base.toList p.2 = some t.toList | false=>(rdR Y n).2 f.base.toList p.2 = none)) from fun w' hw'=>(HL.out w' lo la ll lc f.base _ p.2 (HIi.out w' hw') (HEi.out w' hw') (HGR.out.later hw') (fun k hk=>Nat.lt_of_lt_of_le (HGB.out k hk) (Nat.le_trans hzi hw'.size)) (by omega) (by omega) HFB.out).mono (fun e w4 h4=>by obtain ⟨t,ok4,h1,h2,h3,h5⟩:=h4;exact ⟨t,ok4,h1,hw'.trans (h2.mono hw'.size),h3,h5⟩))
             go_wp2_with fail
             (first | (go_region) | fail)
             go_wp2_with fail
             (first | (refine (HCL.out _ (by repeat (first | with_reducible assumption | with_reducible exact Below.refl _ _ | with_reducible apply Below.drew))).mono ?_;rintro e w4 ⟨t,ok4,rfl,hb4,hroom,hsp⟩) | (go_region_with (first | (go_at_call 107;refine (HCL.out _ (by repeat (first | with_reducible assumption | with_reducible exact Below.refl _ _ | with_reducible apply Below.drew))).mono ?_;rintro e w4 ⟨t,ok4,rfl,hb4,hroom,hsp⟩))))
             all_goals
              have HT4:=hid (HTi.out.below hb4 (by omega))
              have HSF4:=hid (HSFi.out.same (hb4.block _ HSFi.out.lt))
              have HSP:=hid (show (match (generalizing:=false) ok4 with | true=>(if (fdR f).shape = 2 then (rdR Y n).2 (fdR f).base p.2 else (rdR Y n).1 (fdR f).base p.2) = some t.toList | false=>(if (fdR f).shape = 2 then (rdR Y n).2 (fdR f).base p.2 else (rdR Y n).1 (fdR f).base p.2) = none) by rw [if_pos HSH.out];exact hsp)
              have hbut4:But (w.heap.size + 1) wb w4:=hbuti.trans (But.ofBelow hb4)
              have htsz:=hroom.out
              have q1:w4.cell? ⟨wo.heap.size,1,none⟩ = some (.string f.name):=HSF4.out.cell (j:=1) rfl
              have m1:=HT4.out.seg.cell (j:=1) rfl
              have mf1:=HT4.out.seg.frozen 1
              simp only [Nat.zero_add] at m1
              have hcz:(ByteArray.mk #[44]).size = 1:=rfl
              have hov2:¬ 9223372036854775807 < S'.size + f.name.size:=by omega
              have hov3:¬ 9223372036854775807 < S'.size + f.name.size + 1:=by omega
              have hov4:¬ 9223372036854775807 < S'.size + f.name.size + 1 + t.size:=by omega
              have hov5:¬ 9223372036854775807 < S'.size + 1:=by omega
              have hov6:¬ 9223372036854775807 < S'.size + 1 + f.name.size:=by omega
              have hov7:¬ 9223372036854775807 < S'.size + 1 + f.name.size + 1:=by omega
              have hov8:¬ 9223372036854775807 < S'.size + 1 + f.name.size + 1 + t.size:=by omega
              have HAP1:=hid (show (S' ++ f.name ++ ByteArray.mk #[58] ++ t).toList = S'.toList ++ f.name.toList ++ [58] ++ t.toList by rw [app_list,colonB,app_list])
              have HAP2:=hid (show (S' ++ ByteArray.mk #[44] ++ f.name ++ ByteArray.mk #[58] ++ t).toList = S'.toList ++ [44] ++ f.name.toList ++ [58] ++ t.toList by rw [app_list,colonB,app_list,app_list,commaB])
              have HAS1:=hid (show (S' ++ f.name ++ ByteArray.mk #[58] ++ t).size = S'.size + (f.name.size + 1 + t.size) by simp only [ByteArray.size_append];show S'.size + f.name.size + 1 + t.size = _;omega)
              have HAS2:=hid (show (S' ++ ByteArray.mk #[44] ++ f.name ++ ByteArray.mk #[58] ++ t).size = S'.size + (1 + f.name.size + 1 + t.size) by simp only [ByteArray.size_append];show S'.size + 1 + f.name.size + 1 + t.size = _;omega)
              clear hsp hb4 n0 n1 n2 n3 hg0 hg1 e1 ef1
              cases hsb:(S'.toList == [123]) with
              | true =>
               have HNX:=hid (HM.out.there HF'.out HFI.out t.toList ok4 HSP.out (S' ++ f.name ++ ByteArray.mk #[58] ++ t).toList (by rw [HAP1.out,show decide (S'.toList = [123]) = true by simpa using hsb];show _ = S'.toList ++ ([] ++ f.name.toList ++ [58] ++ t.toList);simp) (by rw [size_list];exact hS1))
               have HMX:=HMR.next (k:=f.name.size + 1 + t.size) HNJ.out HFI2.out (by omega)
               go_wp2_with fail
               go_roundg (gk - 1)
               case rel=>exact ⟨i + 1,S' ++ f.name ++ ByteArray.mk #[58] ++ t,true,ok4,by omega,rfl,rfl,by go_num,hid (HT4.out.putOk (by omega) ok4),hid ⟨HNX.out,⟨i,p,by omega,HPI.out,hpn⟩,by rw [HAS1.out];exact HMX⟩,by rw [HAS1.out];omega,hbut4.setCell _ _⟩
               case measure=>omega
              | false =>
               have HNX:=hid (HM.out.there HF'.out HFI.out t.toList ok4 HSP.out (S' ++ ByteArray.mk #[44] ++ f.name ++ ByteArray.mk #[58] ++ t).toList (by rw [HAP2.out,show decide (S'.toList = [123]) = false by simpa using hsb];show _ = S'.toList ++ ([44] ++ f.name.toList ++ [58] ++ t.toList);simp) (by rw [size_list];exact hS1))
               have HMX:=HMR.next (k:=1 + f.name.size + 1 + t.size) HNJ.out HFI2.out (by omega)
               go_wp2_with fail
               go_roundg (gk - 1)
               case rel=>exact ⟨i + 1,S' ++ ByteArray.mk #[44] ++ f.name ++ ByteArray.mk #[58] ++ t,true,ok4,by omega,rfl,rfl,by go_num,hid (HT4.out.putOk (by omega) ok4),hid ⟨HNX.out,⟨i,p,by omega,HPI.out,hpn⟩,by rw [HAS2.out];exact HMX⟩,by rw [HAS2.out];omega,hbut4.setCell _ _⟩
               case measure=>omega
            | false =>
             have HSH:=hid (fdR_nlist hkl)
             have HCL:=hid (show ∀ w',Below wr.heap.size wr w' → Calls Tryz.prog 34 #[.slice la ll lc,.string f.base,.slice pva p.2.length pvc] w' (fun e w4=>∃ (t:ByteArray) (ok4:Bool),e = .returned (.tuple #[.string t,.bool ok4]) ∧ Below wr.heap.size wr w4 ∧ Room t.size p.2.length ∧ (match ok4 with | true=>(rdR Y n).1 f.base.toList p.2 = some t.toList | false=>(rdR Y n).1 f.base.toList p.2 = none)) from fun w' hw'=>(HV.out w' lo la ll lc f.base _ p.2 (HIi.out w' hw') (HEi.out w' hw') (HGR.out.later hw') (fun k hk=>Nat.lt_of_lt_of_le (HGB.out k hk) (Nat.le_trans hzi hw'.size)) (by omega) (by omega) HFB.out).mono (fun e w4 h4=>by obtain ⟨t,ok4,h1,h2,h3,h5⟩:=h4;exact ⟨t,ok4,h1,hw'.trans (h2.mono hw'.size),h3,h5⟩))
             go_wp2_with fail
             (first | (go_region) | fail)
             go_wp2_with fail
             (first | (refine (HCL.out _ (by repeat (first | with_reducible assumption | with_reducible exact Below.refl _ _ | with_reducible apply Below.drew))).mono ?_;rintro e w4 ⟨t,ok4,rfl,hb4,hroom,hsp⟩) | (go_region_with (first | (go_at_call 34;refine (HCL.out _ (by repeat (first | with_reducible assumption | with_reducible exact Below.refl _ _ | with_reducible apply Below.drew))).mono ?_;rintro e w4 ⟨t,ok4,rfl,hb4,hroom,hsp⟩))))
             all_goals
              have HT4:=hid (HTi.out.below hb4 (by omega))
              have HSF4:=hid (HSFi.out.same (hb4.block _ HSFi.out.lt))
              have HSP:=hid (show (match (generalizing:=false) ok4 with | true=>(if (fdR f).shape = 2 then (rdR Y n).2 (fdR f).base p.2 else (rdR Y n).1 (fdR f).base p.2) = some t.toList | false=>(if (fdR f).shape = 2 then (rdR Y n).2 (fdR f).base p.2 else (rdR Y n).1 (fdR f).base p.2) = none) by rw [if_neg HSH.out];exact hsp)
              have hbut4:But (w.heap.size + 1) wb w4:=hbuti.trans (But.ofBelow hb4)
              have htsz:=hroom.out
              have q1:w4.cell? ⟨wo.heap.size,1,none⟩ = some (.string f.name):=HSF4.out.cell (j:=1) rfl
              have m1:=HT4.out.seg.cell (j:=1) rfl
              have mf1:=HT4.out.seg.frozen 1
              simp only [Nat.zero_add] at m1
              have hcz:(ByteArray.mk #[44]).size = 1:=rfl
              have hov2:¬ 9223372036854775807 < S'.size + f.name.size:=by omega
              have hov3:¬ 9223372036854775807 < S'.size + f.name.size + 1:=by omega
              have hov4:¬ 9223372036854775807 < S'.size + f.name.size + 1 + t.size:=by omega
              have hov5:¬ 9223372036854775807 < S'.size + 1:=by omega
              have hov6:¬ 9223372036854775807 < S'.size + 1 + f.name.size:=by omega
              have hov7:¬ 9223372036854775807 < S'.size + 1 + f.name.size + 1:=by omega
              have hov8:¬ 9223372036854775807 < S'.size + 1 + f.name.size + 1 + t.size:=by omega
              have HAP1:=hid (show (S' ++ f.name ++ ByteArray.mk #[58] ++ t).toList = S'.toList ++ f.name.toList ++ [58] ++ t.toList by rw [app_list,colonB,app_list])
              have HAP2:=hid (show (S' ++ ByteArray.mk #[44] ++ f.name ++ ByteArray.mk #[58] ++ t).toList = S'.toList ++ [44] ++ f.name.toList ++ [58] ++ t.toList by rw [app_list,colonB,app_list,app_list,commaB])
              have HAS1:=hid (show (S' ++ f.name ++ ByteArray.mk #[58] ++ t).size = S'.size + (f.name.size + 1 + t.size) by simp only [ByteArray.size_append];show S'.size + f.name.size + 1 + t.size = _;omega)
              have HAS2:=hid (show (S' ++ ByteArray.mk #[44] ++ f.name ++ ByteArray.mk #[58] ++ t).size = S'.size + (1 + f.name.size + 1 + t.size) by simp only [ByteArray.size_append];show S'.size + 1 + f.name.size + 1 + t.size = _;omega)
              clear hsp hb4 n0 n1 n2 n3 hg0 hg1 e1 ef1
              cases hsb:(S'.toList == [123]) with
              | true =>
               have HNX:=hid (HM.out.there HF'.out HFI.out t.toList ok4 HSP.out (S' ++ f.name ++ ByteArray.mk #[58] ++ t).toList (by rw [HAP1.out,show decide (S'.toList = [123]) = true by simpa using hsb];show _ = S'.toList ++ ([] ++ f.name.toList ++ [58] ++ t.toList);simp) (by rw [size_list];exact hS1))
               have HMX:=HMR.next (k:=f.name.size + 1 + t.size) HNJ.out HFI2.out (by omega)
               go_wp2_with fail
               go_roundg (gk - 1)
               case rel=>exact ⟨i + 1,S' ++ f.name ++ ByteArray.mk #[58] ++ t,true,ok4,by omega,rfl,rfl,by go_num,hid (HT4.out.putOk (by omega) ok4),hid ⟨HNX.out,⟨i,p,by omega,HPI.out,hpn⟩,by rw [HAS1.out];exact HMX⟩,by rw [HAS1.out];omega,hbut4.setCell _ _⟩
               case measure=>omega
              | false =>
               have HNX:=hid (HM.out.there HF'.out HFI.out t.toList ok4 HSP.out (S' ++ ByteArray.mk #[44] ++ f.name ++ ByteArray.mk #[58] ++ t).toList (by rw [HAP2.out,show decide (S'.toList = [123]) = false by simpa using hsb];show _ = S'.toList ++ ([44] ++ f.name.toList ++ [58] ++ t.toList);simp) (by rw [size_list];exact hS1))
               have HMX:=HMR.next (k:=1 + f.name.size + 1 + t.size) HNJ.out HFI2.out (by omega)
               go_wp2_with fail
               go_roundg (gk - 1)
               case rel=>exact ⟨i + 1,S' ++ ByteArray.mk #[44] ++ f.name ++ ByteArray.mk #[58] ++ t,true,ok4,by omega,rfl,rfl,by go_num,hid (HT4.out.putOk (by omega) ok4),hid ⟨HNX.out,⟨i,p,by omega,HPI.out,hpn⟩,by rw [HAS2.out];exact HMX⟩,by rw [HAS2.out];omega,hbut4.setCell _ _⟩
               case measure=>omega
          ·have hpnB:((p.1:Int) != (fn:Int)) = true:=by simp;omega
           have hpnE:((p.1:Int) == (fn:Int)) = false:=by simp;omega
           go_wp2_with fail
           (first | (go_region) | fail)
           go_wp2_with fail
           go_roundg (gk - 1)
           case rel=>exact ⟨i + 1,S',th,true,by omega,rfl,rfl,by go_num,hid (HTi.out.below (Below.refl _ _).drew (by omega)),hid (by
            cases th with
            | false=>exact ⟨HIN.out.1,HIN.out.2.1,fun q x hq hx=>by
              rcases Nat.lt_or_ge q i with h | h
              ·exact HIN.out.2.2 q x h hx
              ·have:q = i:=by omega
               subst this
               rw [HPI.out] at hx;cases hx;exact hpn⟩
            | true =>
             obtain ⟨h1,⟨q,x,hq,hx,hxm⟩,h3⟩:=HIN.out
             exact ⟨h1,⟨q,x,by omega,hx,hxm⟩,h3⟩),hS1',hbuti.drew⟩
           case measure=>omega
        ·have hltiI:¬ (i:Int) < (ps.length:Int):=by omega
         have hltiD:decide ((i:Int) < (ps.length:Int)) = false:=by simpa using hltiI
         cases th with
         | true =>
          obtain ⟨hm1,_,hm3⟩:=HIN.out
          have HM1:=hid hm1
          have HM3:=hm3
          clear hm1 hm3
          go_wp2_with fail
          go_roundg (gko - 1)
          case rel=>exact ⟨j + 1,S',ok',by omega,rfl,by go_num,HTi,HM1,HM3,hS1',hbuta⟩
          case measure=>omega
         | false =>
          obtain ⟨hok',hSS,hall⟩:=HIN.out
          subst hok' hSS
          have HFI:=hid (show ps.find? (fun p=>p.1 == (fdR f).number) = none from by rw [HFN.out];exact find_no (fun q x hq hx=>hall q x (by omega) hx))
          clear hall
          cases hko:(f.kind.toList == [111,112,116]) with
          | true =>
           have HNX:=hid ((HM.out.skip HF'.out HFI.out).1 (fdR_opt hko))
           go_wp2_with fail
           go_roundg (gko - 1)
           case rel=>exact ⟨j + 1,S',true,by omega,rfl,by go_num,HTi,HNX,HMR.skip,hS1',hbuta⟩
           case measure=>omega
          | false =>
           have HNX:=hid ((HM.out.skip HF'.out HFI.out).2 (fdR_nopt hko))
           go_wp2_with fail
           go_roundg (gko - 1)
           case rel=>exact ⟨j + 1,S',false,by omega,rfl,by go_num,hid (HTi.out.putOk (by omega) false),hid HNX.out,HMR.skip,hS1',hbuta.setCell _ _⟩
           case measure=>omega
     ·have hltI:¬ (j:Int) < (fs.length:Int):=by omega
      have hltD:decide ((j:Int) < (fs.length:Int)) = false:=by simpa using hltI
      have HLS:=hid (HM.out.last (fun _=>by rw [List.length_map];omega))
      have HAP:=hid (show (S ++ ByteArray.mk #[125]).toList = S.toList ++ [125] by rw [app_list,closeB])
      go_wp2_with fail
      (first | (go_region) | fail)
      all_goals
       go_wp2_with fail
       go_ret2
       unfold RdPost
       refine ⟨S ++ ByteArray.mk #[125],ok,rfl,hbelo.drew,⟨by rw [ByteArray.size_append];show S.size + 1 ≤ _;omega⟩,?_⟩
       rw [HAP.out]
       exact HLS.out
   ·have hD0I:(0:Int) < (D.length:Int):=by omega
    have HDn:=hid (show D ≠ [] from fun e=>hD0 (by rw [e];rfl))
    have hgk:=HDg.out rfl
    have hDd:=HDd.out
    go_wp2_with fail
    refine (tnumber_any wr (w.heap.size + 1) w.heap.size _ D true HT.out (by omega) (by omega)).mono ?_;rintro e w1 ⟨n1,a1,c1',R,ok1,rfl,hn1,hbut1,hT1,hRl,hans1⟩
    have HT1:=hid hT1
    have HA1:=hid hans1
    have hbel1:Below w.heap.size w w1:=hbut1.below hbel (by omega) (Nat.le_refl _)
    clear c0 c1 i3 hT1 hans1
    go_wp2_with fail
    refine (tsome_any w1 (w.heap.size + 1) w.heap.size _ R ok1 HT1.out (by omega) (by omega)).mono ?_;rintro e w2 ⟨a2,c2,V,a3,c3,R2,ok2,rfl,hbut2,hT2,hV2,hVb,hVR,hVn,hans2⟩
    have hbut:But (w.heap.size + 1) wr w2:=hbut1.trans hbut2
    have hbel2:Below w.heap.size w w2:=hbut.below hbel (by omega) (Nat.le_refl _)
    have hz2:=hbel2.size
    have HT2:=hid hT2
    have HP2:=hid (HP.out.but HT.out.seg hbut (by omega))
    have HS2:=hid (HSI.out.same (hbut.block _ HSI.out.lt (by omega)))
    obtain ⟨hgood,hbad⟩:=HPF.out.next HDn.out HA1.out hans2
    have HGO:=hid hgood
    have HBA:=hid hbad
    have HVR:=hid hV2
    have HVB:=hid hVb
    have hR2D:ok2 = true → R2.length < D.length:=fun h=>by
     subst h
     have h1:=takeC_len hans2.2
     omega
    have HR2:=hid hR2D
    have htl2:=HT2.out.seg.lt
    have c1:=HT2.out.seg.cell (j:=1) rfl
    have f1:=HT2.out.seg.frozen 1
    simp only [Nat.zero_add] at c1
    clear hT2 hV2 hVb hVn hans2 hbut1 hbut2 hbut hgood hbad hR2D
    have hpl64:ps.length ≤ 64:=by omega
    by_cases h1:n1 < 1
    ·have h1I:(n1:Int) < 1:=by omega
     have hsb:But (w.heap.size + 1) w2 (w2.setCell ⟨w.heap.size + 1,1,none⟩ (.bool false)):=(But.refl _ _).setCell _ _
     have HTX:=hid (HT2.out.putOk (by omega) false)
     have HPX:=hid (HP2.out.but HT2.out.seg hsb (by omega))
     have HSX:=hid (HS2.out.same (hsb.block _ HS2.out.lt (by omega)))
     have hbelX:Below w.heap.size w (w2.setCell ⟨w.heap.size + 1,1,none⟩ (.bool false)):=hsb.below hbel2 (by omega) (Nat.le_refl _)
     have HVX:=hid (HVR.out.same (B:=w.heap.size) (hsb.below (Below.refl _ _) (by omega) (by omega)) HVB.out)
     have hzX:=hbelX.size
     obtain ⟨us,hul,huo,hur⟩:=HPX.out
     have HUO:=hid huo
     have HUR:=hid hur
     have HUL:=hid hul
     clear huo hur hul
     rw [HUL.out] at HUO
     go_wp2_with (at_builtin;refine wpList_append_gen _ rfl _ _ 180 182 _ 2 32 rfl Tryz.underlying180 Tryz.infoFld rfl (by decide) _ ps.length _ w.heap.size rfl (World.ownsRow.alloc HUO.out _) ⟨_,0,none⟩ 1 1 (pairCells (n1,.slice a2 V.length c2)) rfl rfl (cells_new_at _ _ (by simp) #[.int .u64 n1,.slice a2 V.length c2] _) (by simp [pairCells,Value.oneCell']) (ps.length + 1) rfl _ rfl (by unfold maxLen;omega) (by omega) (by simp;omega) ?_)
     intro a5 c5 w5 ho5 hg5
     have hal:Below (w2.setCell ⟨w.heap.size + 1,1,none⟩ (.bool false)).heap.size (w2.setCell ⟨w.heap.size + 1,1,none⟩ (.bool false)) ((w2.setCell ⟨w.heap.size + 1,1,none⟩ (.bool false)).alloc (.cells #[.int .u64 n1,.slice a2 V.length c2] 182)):=(Below.refl _ _).alloc (Nat.le_refl _) _
     have hra:=World.ownsRow.alloc HUO.out (.cells #[.int .u64 n1,.slice a2 V.length c2] 182 (0,0))
     have hgb:Below w.heap.size ((w2.setCell ⟨w.heap.size + 1,1,none⟩ (.bool false)).alloc (.cells #[.int .u64 n1,.slice a2 V.length c2] 182)) w5:=hg5.below (fun q hq=>(HUO.out.lt q hq).1) (by simp;omega)
     have hb25:Below w.heap.size (w2.setCell ⟨w.heap.size + 1,1,none⟩ (.bool false)) w5:=((Below.refl _ _).alloc (by first | omega | (simp;omega)) _).trans hgb
     have hbel5:Below w.heap.size w w5:=hbelX.trans hb25
     have HP5:=hid (show RPts w5 w.heap.size w.heap.size (.slice a5 (ps.length + 1) c5) (ps ++ [(n1,V)]) from by
      refine ⟨us ++ [(n1,.slice a2 V.length c2)],by simp [HUL.out],?_,fun i x p hx hp=>?_⟩
      ·have:=ho5
       rw [List.length_append,List.length_singleton,HUL.out,List.flatMap_append]
       simpa using this
      ·rcases Nat.lt_or_ge i us.length with hi | hi
       ·rw [List.getElem?_append_left hi] at hx
        rw [List.getElem?_append_left (by have:=HUL.out;omega)] at hp
        obtain ⟨h1,h2,h3⟩:=HUR.out i x p hx hp
        exact ⟨h1,h2.same hb25 h3,h3⟩
       ·rw [List.getElem?_append_right hi] at hx
        rw [List.getElem?_append_right (by have:=HUL.out;omega)] at hp
        have hi0:i - us.length = 0:=by
         rcases Nat.eq_zero_or_pos (i - us.length) with e | e
         ·exact e
         ·rw [List.getElem?_eq_none (by simp;omega)] at hx;cases hx
        rw [hi0] at hx
        rw [show i - ps.length = 0 by have:=HUL.out;omega] at hp
        simp at hx hp
        subst hx hp
        exact ⟨rfl,HVX.out.same hb25 HVB.out,HVB.out⟩)
     have HT5:=hid ((HTX.out.below hal (by omega)).grew hra hg5 (Nat.le_refl _) (by omega))
     have HS5:=hid (seg_grew (HSX.out.same (hal.block _ HSX.out.lt)) hra hg5)
     have HPL:=hid (show (ps ++ [(n1,V)]).length = ps.length + 1 by simp)
     have HST:=hid (show PFst d (lastN (ps ++ [(n1,V)])) R2 (ps ++ [(n1,V)]) false by rw [lastN_snoc];exact (show partsD d = none from HBA.out (fun hh=>by omega)))
     clear ho5 hg5 hgb hal hra
     go_wp2_with fail
     go_roundg (gk - 1)
     case rel=>exact ⟨R2,a3,c3,false,ps ++ [(n1,V)],a5,c5,by rw [HPL.out],by rw [HPL.out];omega,hid HT5.out,hid (fun h=>by cases h),hid (by omega),hid (by rw [HPL.out];exact HP5.out),hid HST.out,hid HS5.out,hbel5⟩
     case measure=>omega
    ·have h1I:¬ (n1:Int) < 1:=by omega
     have h1D:decide ((n1:Int) < 1) = false:=by simpa using h1I
     by_cases h2:99 < n1
     ·have h2I:(99:Int) < (n1:Int):=by omega
      have hsb:But (w.heap.size + 1) w2 (w2.setCell ⟨w.heap.size + 1,1,none⟩ (.bool false)):=(But.refl _ _).setCell _ _
      have HTX:=hid (HT2.out.putOk (by omega) false)
      have HPX:=hid (HP2.out.but HT2.out.seg hsb (by omega))
      have HSX:=hid (HS2.out.same (hsb.block _ HS2.out.lt (by omega)))
      have hbelX:Below w.heap.size w (w2.setCell ⟨w.heap.size + 1,1,none⟩ (.bool false)):=hsb.below hbel2 (by omega) (Nat.le_refl _)
      have HVX:=hid (HVR.out.same (B:=w.heap.size) (hsb.below (Below.refl _ _) (by omega) (by omega)) HVB.out)
      have hzX:=hbelX.size
      obtain ⟨us,hul,huo,hur⟩:=HPX.out
      have HUO:=hid huo
      have HUR:=hid hur
      have HUL:=hid hul
      clear huo hur hul
      rw [HUL.out] at HUO
      go_wp2_with (at_builtin;refine wpList_append_gen _ rfl _ _ 180 182 _ 2 32 rfl Tryz.underlying180 Tryz.infoFld rfl (by decide) _ ps.length _ w.heap.size rfl (World.ownsRow.alloc HUO.out _) ⟨_,0,none⟩ 1 1 (pairCells (n1,.slice a2 V.length c2)) rfl rfl (cells_new_at _ _ (by simp) #[.int .u64 n1,.slice a2 V.length c2] _) (by simp [pairCells,Value.oneCell']) (ps.length + 1) rfl _ rfl (by unfold maxLen;omega) (by omega) (by simp;omega) ?_)
      intro a5 c5 w5 ho5 hg5
      have hal:Below (w2.setCell ⟨w.heap.size + 1,1,none⟩ (.bool false)).heap.size (w2.setCell ⟨w.heap.size + 1,1,none⟩ (.bool false)) ((w2.setCell ⟨w.heap.size + 1,1,none⟩ (.bool false)).alloc (.cells #[.int .u64 n1,.slice a2 V.length c2] 182)):=(Below.refl _ _).alloc (Nat.le_refl _) _
      have hra:=World.ownsRow.alloc HUO.out (.cells #[.int .u64 n1,.slice a2 V.length c2] 182 (0,0))
      have hgb:Below w.heap.size ((w2.setCell ⟨w.heap.size + 1,1,none⟩ (.bool false)).alloc (.cells #[.int .u64 n1,.slice a2 V.length c2] 182)) w5:=hg5.below (fun q hq=>(HUO.out.lt q hq).1) (by simp;omega)
      have hb25:Below w.heap.size (w2.setCell ⟨w.heap.size + 1,1,none⟩ (.bool false)) w5:=((Below.refl _ _).alloc (by first | omega | (simp;omega)) _).trans hgb
      have hbel5:Below w.heap.size w w5:=hbelX.trans hb25
      have HP5:=hid (show RPts w5 w.heap.size w.heap.size (.slice a5 (ps.length + 1) c5) (ps ++ [(n1,V)]) from by
       refine ⟨us ++ [(n1,.slice a2 V.length c2)],by simp [HUL.out],?_,fun i x p hx hp=>?_⟩
       ·have:=ho5
        rw [List.length_append,List.length_singleton,HUL.out,List.flatMap_append]
        simpa using this
       ·rcases Nat.lt_or_ge i us.length with hi | hi
        ·rw [List.getElem?_append_left hi] at hx
         rw [List.getElem?_append_left (by have:=HUL.out;omega)] at hp
         obtain ⟨h1,h2,h3⟩:=HUR.out i x p hx hp
         exact ⟨h1,h2.same hb25 h3,h3⟩
        ·rw [List.getElem?_append_right hi] at hx
         rw [List.getElem?_append_right (by have:=HUL.out;omega)] at hp
         have hi0:i - us.length = 0:=by
          rcases Nat.eq_zero_or_pos (i - us.length) with e | e
          ·exact e
          ·rw [List.getElem?_eq_none (by simp;omega)] at hx;cases hx
         rw [hi0] at hx
         rw [show i - ps.length = 0 by have:=HUL.out;omega] at hp
         simp at hx hp
         subst hx hp
         exact ⟨rfl,HVX.out.same hb25 HVB.out,HVB.out⟩)
      have HT5:=hid ((HTX.out.below hal (by omega)).grew hra hg5 (Nat.le_refl _) (by omega))
      have HS5:=hid (seg_grew (HSX.out.same (hal.block _ HSX.out.lt)) hra hg5)
      have HPL:=hid (show (ps ++ [(n1,V)]).length = ps.length + 1 by simp)
      have HST:=hid (show PFst d (lastN (ps ++ [(n1,V)])) R2 (ps ++ [(n1,V)]) false by rw [lastN_snoc];exact (show partsD d = none from HBA.out (fun hh=>by omega)))
      clear ho5 hg5 hgb hal hra
      go_wp2_with fail
      go_roundg (gk - 1)
      case rel=>exact ⟨R2,a3,c3,false,ps ++ [(n1,V)],a5,c5,by rw [HPL.out],by rw [HPL.out];omega,hid HT5.out,hid (fun h=>by cases h),hid (by omega),hid (by rw [HPL.out];exact HP5.out),hid HST.out,hid HS5.out,hbel5⟩
      case measure=>omega
     ·have h2I:¬ (99:Int) < (n1:Int):=by omega
      have h2D:decide ((99:Int) < (n1:Int)) = false:=by simpa using h2I
      by_cases h3:ps.length = 0
      ·have h3I:¬ (0:Int) < (ps.length:Int):=by omega
       have h3D:decide ((0:Int) < (ps.length:Int)) = false:=decide_eq_false h3I
       have h3L:lastN ps < n1:=by rw [List.eq_nil_of_length_eq_zero h3];show 0 < n1;omega
       clear h3
       obtain ⟨us,hul,huo,hur⟩:=HP2.out
       have HUO:=hid huo
       have HUR:=hid hur
       have HUL:=hid hul
       clear huo hur hul
       rw [HUL.out] at HUO
       go_wp2_with (at_builtin;refine wpList_append_gen _ rfl _ _ 180 182 _ 2 32 rfl Tryz.underlying180 Tryz.infoFld rfl (by decide) _ ps.length _ w.heap.size rfl (World.ownsRow.alloc HUO.out _) ⟨_,0,none⟩ 1 1 (pairCells (n1,.slice a2 V.length c2)) rfl rfl (cells_new_at _ _ (by simp) #[.int .u64 n1,.slice a2 V.length c2] _) (by simp [pairCells,Value.oneCell']) (ps.length + 1) rfl _ rfl (by unfold maxLen;omega) (by omega) (by simp;omega) ?_)
       intro a5 c5 w5 ho5 hg5
       have hal:Below w2.heap.size w2 (w2.alloc (.cells #[.int .u64 n1,.slice a2 V.length c2] 182)):=(Below.refl _ _).alloc (Nat.le_refl _) _
       have hra:=World.ownsRow.alloc HUO.out (.cells #[.int .u64 n1,.slice a2 V.length c2] 182 (0,0))
       have hgb:Below w.heap.size (w2.alloc (.cells #[.int .u64 n1,.slice a2 V.length c2] 182)) w5:=hg5.below (fun q hq=>(HUO.out.lt q hq).1) (by simp;omega)
       have hb25:Below w.heap.size w2 w5:=((Below.refl _ _).alloc (by first | omega | (simp;omega)) _).trans hgb
       have hbel5:Below w.heap.size w w5:=hbel2.trans hb25
       have HP5:=hid (show RPts w5 w.heap.size w.heap.size (.slice a5 (ps.length + 1) c5) (ps ++ [(n1,V)]) from by
        refine ⟨us ++ [(n1,.slice a2 V.length c2)],by simp [HUL.out],?_,fun i x p hx hp=>?_⟩
        ·have:=ho5
         rw [List.length_append,List.length_singleton,HUL.out,List.flatMap_append]
         simpa using this
        ·rcases Nat.lt_or_ge i us.length with hi | hi
         ·rw [List.getElem?_append_left hi] at hx
          rw [List.getElem?_append_left (by have:=HUL.out;omega)] at hp
          obtain ⟨h1,h2,h3⟩:=HUR.out i x p hx hp
          exact ⟨h1,h2.same hb25 h3,h3⟩
         ·rw [List.getElem?_append_right hi] at hx
          rw [List.getElem?_append_right (by have:=HUL.out;omega)] at hp
          have hi0:i - us.length = 0:=by
           rcases Nat.eq_zero_or_pos (i - us.length) with e | e
           ·exact e
           ·rw [List.getElem?_eq_none (by simp;omega)] at hx;cases hx
          rw [hi0] at hx
          rw [show i - ps.length = 0 by have:=HUL.out;omega] at hp
          simp at hx hp
          subst hx hp
          exact ⟨rfl,HVR.out.same hb25 HVB.out,HVB.out⟩)
       have HT5:=hid ((HT2.out.below hal (by omega)).grew hra hg5 (Nat.le_refl _) (by omega))
       have HS5:=hid (seg_grew (HS2.out.same (hal.block _ HS2.out.lt)) hra hg5)
       have HPL:=hid (show (ps ++ [(n1,V)]).length = ps.length + 1 by simp)
       have HST:=hid (show PFst d (lastN (ps ++ [(n1,V)])) R2 (ps ++ [(n1,V)]) ok2 by rw [lastN_snoc];exact HGO.out ⟨by omega,by omega⟩)
       clear ho5 hg5 hgb hal hra
       go_wp2_with fail
       go_roundg (gk - 1)
       case rel=>exact ⟨R2,a3,c3,ok2,ps ++ [(n1,V)],a5,c5,by rw [HPL.out],by rw [HPL.out];omega,hid HT5.out,hid (fun h=>by have:=HR2.out h;omega),hid (by omega),hid (by rw [HPL.out];exact HP5.out),hid HST.out,hid HS5.out,hbel5⟩
       case measure=>omega
      ·obtain ⟨k,hk⟩:∃ k,ps.length = k + 1:=⟨ps.length - 1,by omega⟩
       obtain ⟨p,hp⟩:∃ p,ps[k]? = some p:=⟨ps[k],List.getElem?_eq_getElem (by omega)⟩
       have hpl1:lastN ps = p.1:=by
        unfold lastN
        rw [List.getLast?_eq_getElem?,hk,Nat.add_sub_cancel,hp]
       obtain ⟨g,gc,pva,pvc,hpv,hgl,hgs,hg0,_⟩:=HP2.out.at hp
       obtain ⟨rfl,rfl⟩:pa = some ⟨g,0,none⟩ ∧ pc = gc:=by simpa using hpv
       have h3I:(0:Int) < (ps.length:Int):=by omega
       have h3K:(ps.length:Int) - 1 = (k:Int):=by omega
       have h3W:IntKind.i64.wrap (k:Int) = (k:Int):=by rw [IntKind.wrap_i64];omega
       have h3L:(k:Int) < (ps.length:Int):=by omega
       have h3N:k < ps.length:=by omega
       clear hpv hp hk h3
       by_cases h4:n1 ≤ p.1
       ·have h4I:(n1:Int) ≤ (p.1:Int):=by omega
        have h4L:¬ lastN ps < n1:=by omega
        have HPL1:=hid hpl1
        clear hpl1
        have hsb:But (w.heap.size + 1) w2 (w2.setCell ⟨w.heap.size + 1,1,none⟩ (.bool false)):=(But.refl _ _).setCell _ _
        have HTX:=hid (HT2.out.putOk (by omega) false)
        have HPX:=hid (HP2.out.but HT2.out.seg hsb (by omega))
        have HSX:=hid (HS2.out.same (hsb.block _ HS2.out.lt (by omega)))
        have hbelX:Below w.heap.size w (w2.setCell ⟨w.heap.size + 1,1,none⟩ (.bool false)):=hsb.below hbel2 (by omega) (Nat.le_refl _)
        have HVX:=hid (HVR.out.same (B:=w.heap.size) (hsb.below (Below.refl _ _) (by omega) (by omega)) HVB.out)
        have hzX:=hbelX.size
        obtain ⟨us,hul,huo,hur⟩:=HPX.out
        have HUO:=hid huo
        have HUR:=hid hur
        have HUL:=hid hul
        clear huo hur hul
        rw [HUL.out] at HUO
        go_wp2_with (at_builtin;refine wpList_append_gen _ rfl _ _ 180 182 _ 2 32 rfl Tryz.underlying180 Tryz.infoFld rfl (by decide) _ ps.length _ w.heap.size rfl (World.ownsRow.alloc HUO.out _) ⟨_,0,none⟩ 1 1 (pairCells (n1,.slice a2 V.length c2)) rfl rfl (cells_new_at _ _ (by simp) #[.int .u64 n1,.slice a2 V.length c2] _) (by simp [pairCells,Value.oneCell']) (ps.length + 1) rfl _ rfl (by unfold maxLen;omega) (by omega) (by simp;omega) ?_)
        intro a5 c5 w5 ho5 hg5
        have hal:Below (w2.setCell ⟨w.heap.size + 1,1,none⟩ (.bool false)).heap.size (w2.setCell ⟨w.heap.size + 1,1,none⟩ (.bool false)) ((w2.setCell ⟨w.heap.size + 1,1,none⟩ (.bool false)).alloc (.cells #[.int .u64 n1,.slice a2 V.length c2] 182)):=(Below.refl _ _).alloc (Nat.le_refl _) _
        have hra:=World.ownsRow.alloc HUO.out (.cells #[.int .u64 n1,.slice a2 V.length c2] 182 (0,0))
        have hgb:Below w.heap.size ((w2.setCell ⟨w.heap.size + 1,1,none⟩ (.bool false)).alloc (.cells #[.int .u64 n1,.slice a2 V.length c2] 182)) w5:=hg5.below (fun q hq=>(HUO.out.lt q hq).1) (by simp;omega)
        have hb25:Below w.heap.size (w2.setCell ⟨w.heap.size + 1,1,none⟩ (.bool false)) w5:=((Below.refl _ _).alloc (by first | omega | (simp;omega)) _).trans hgb
        have hbel5:Below w.heap.size w w5:=hbelX.trans hb25
        have HP5:=hid (show RPts w5 w.heap.size w.heap.size (.slice a5 (ps.length + 1) c5) (ps ++ [(n1,V)]) from by
         refine ⟨us ++ [(n1,.slice a2 V.length c2)],by simp [HUL.out],?_,fun i x p hx hp=>?_⟩
         ·have:=ho5
          rw [List.length_append,List.length_singleton,HUL.out,List.flatMap_append]
          simpa using this
         ·rcases Nat.lt_or_ge i us.length with hi | hi
          ·rw [List.getElem?_append_left hi] at hx
           rw [List.getElem?_append_left (by have:=HUL.out;omega)] at hp
           obtain ⟨h1,h2,h3⟩:=HUR.out i x p hx hp
           exact ⟨h1,h2.same hb25 h3,h3⟩
          ·rw [List.getElem?_append_right hi] at hx
           rw [List.getElem?_append_right (by have:=HUL.out;omega)] at hp
           have hi0:i - us.length = 0:=by
            rcases Nat.eq_zero_or_pos (i - us.length) with e | e
            ·exact e
            ·rw [List.getElem?_eq_none (by simp;omega)] at hx;cases hx
           rw [hi0] at hx
           rw [show i - ps.length = 0 by have:=HUL.out;omega] at hp
           simp at hx hp
           subst hx hp
           exact ⟨rfl,HVX.out.same hb25 HVB.out,HVB.out⟩)
        have HT5:=hid ((HTX.out.below hal (by omega)).grew hra hg5 (Nat.le_refl _) (by omega))
        have HS5:=hid (seg_grew (HSX.out.same (hal.block _ HSX.out.lt)) hra hg5)
        have HPL:=hid (show (ps ++ [(n1,V)]).length = ps.length + 1 by simp)
        have HST:=hid (show PFst d (lastN (ps ++ [(n1,V)])) R2 (ps ++ [(n1,V)]) false by rw [lastN_snoc];exact (show partsD d = none from HBA.out (fun hh=>by omega)))
        clear ho5 hg5 hgb hal hra
        go_wp2_with fail
        go_roundg (gk - 1)
        case rel=>exact ⟨R2,a3,c3,false,ps ++ [(n1,V)],a5,c5,by rw [HPL.out],by rw [HPL.out];omega,hid HT5.out,hid (fun h=>by cases h),hid (by omega),hid (by rw [HPL.out];exact HP5.out),hid HST.out,hid HS5.out,hbel5⟩
        case measure=>omega
       ·have h4I:¬ (n1:Int) ≤ (p.1:Int):=by omega
        have h4D:decide ((n1:Int) ≤ (p.1:Int)) = false:=by simpa using h4I
        have h4L:lastN ps < n1:=by omega
        have HPL1:=hid hpl1
        clear hpl1
        obtain ⟨us,hul,huo,hur⟩:=HP2.out
        have HUO:=hid huo
        have HUR:=hid hur
        have HUL:=hid hul
        clear huo hur hul
        rw [HUL.out] at HUO
        go_wp2_with (at_builtin;refine wpList_append_gen _ rfl _ _ 180 182 _ 2 32 rfl Tryz.underlying180 Tryz.infoFld rfl (by decide) _ ps.length _ w.heap.size rfl (World.ownsRow.alloc HUO.out _) ⟨_,0,none⟩ 1 1 (pairCells (n1,.slice a2 V.length c2)) rfl rfl (cells_new_at _ _ (by simp) #[.int .u64 n1,.slice a2 V.length c2] _) (by simp [pairCells,Value.oneCell']) (ps.length + 1) rfl _ rfl (by unfold maxLen;omega) (by omega) (by simp;omega) ?_)
        intro a5 c5 w5 ho5 hg5
        have hal:Below w2.heap.size w2 (w2.alloc (.cells #[.int .u64 n1,.slice a2 V.length c2] 182)):=(Below.refl _ _).alloc (Nat.le_refl _) _
        have hra:=World.ownsRow.alloc HUO.out (.cells #[.int .u64 n1,.slice a2 V.length c2] 182 (0,0))
        have hgb:Below w.heap.size (w2.alloc (.cells #[.int .u64 n1,.slice a2 V.length c2] 182)) w5:=hg5.below (fun q hq=>(HUO.out.lt q hq).1) (by simp;omega)
        have hb25:Below w.heap.size w2 w5:=((Below.refl _ _).alloc (by first | omega | (simp;omega)) _).trans hgb
        have hbel5:Below w.heap.size w w5:=hbel2.trans hb25
        have HP5:=hid (show RPts w5 w.heap.size w.heap.size (.slice a5 (ps.length + 1) c5) (ps ++ [(n1,V)]) from by
         refine ⟨us ++ [(n1,.slice a2 V.length c2)],by simp [HUL.out],?_,fun i x p hx hp=>?_⟩
         ·have:=ho5
          rw [List.length_append,List.length_singleton,HUL.out,List.flatMap_append]
          simpa using this
         ·rcases Nat.lt_or_ge i us.length with hi | hi
          ·rw [List.getElem?_append_left hi] at hx
           rw [List.getElem?_append_left (by have:=HUL.out;omega)] at hp
           obtain ⟨h1,h2,h3⟩:=HUR.out i x p hx hp
           exact ⟨h1,h2.same hb25 h3,h3⟩
          ·rw [List.getElem?_append_right hi] at hx
           rw [List.getElem?_append_right (by have:=HUL.out;omega)] at hp
           have hi0:i - us.length = 0:=by
            rcases Nat.eq_zero_or_pos (i - us.length) with e | e
            ·exact e
            ·rw [List.getElem?_eq_none (by simp;omega)] at hx;cases hx
           rw [hi0] at hx
           rw [show i - ps.length = 0 by have:=HUL.out;omega] at hp
           simp at hx hp
           subst hx hp
           exact ⟨rfl,HVR.out.same hb25 HVB.out,HVB.out⟩)
        have HT5:=hid ((HT2.out.below hal (by omega)).grew hra hg5 (Nat.le_refl _) (by omega))
        have HS5:=hid (seg_grew (HS2.out.same (hal.block _ HS2.out.lt)) hra hg5)
        have HPL:=hid (show (ps ++ [(n1,V)]).length = ps.length + 1 by simp)
        have HST:=hid (show PFst d (lastN (ps ++ [(n1,V)])) R2 (ps ++ [(n1,V)]) ok2 by rw [lastN_snoc];exact HGO.out ⟨by omega,by omega⟩)
        clear ho5 hg5 hgb hal hra
        go_wp2_with fail
        go_roundg (gk - 1)
        case rel=>exact ⟨R2,a3,c3,ok2,ps ++ [(n1,V)],a5,c5,by rw [HPL.out],by rw [HPL.out];omega,hid HT5.out,hid (fun h=>by have:=HR2.out h;omega),hid (by omega),hid (by rw [HPL.out];exact HP5.out),hid HST.out,hid HS5.out,hbel5⟩
        case measure=>omega
end Go.Proofs.YtopcgnjocklcoaaGreatDoor

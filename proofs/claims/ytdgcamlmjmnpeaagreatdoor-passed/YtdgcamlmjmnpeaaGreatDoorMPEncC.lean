/- Package values: the encoder's field; package schemas: Type and Choices. -/
import Derived.Test.YtdgcamlmjmnpeaaGreatDoorMPEncA
namespace Go.Proofs.YtdgcamlmjmnpeaaGreatDoor
open Go.RowKit
theorem PPost.back {spec:List UInt8 → Got} {w wf:World} {eb:Nat} {lv:Value} {t:ByteArray} {e:Ending} {w':World} (h:PPost spec wf eb lv t e w') (hb:Below w.heap.size w wf):PPost spec w eb lv t e w':=by
 obtain ⟨a,c,out,t',ok,h1,h2,h3,h4,h5,h6,h7⟩:=h
 exact ⟨a,c,out,t',ok,h1,own_base h2 hb.size,(But.ofBelow hb).trans h3,h4,h5,h6,h7⟩
theorem PPost.turn {spec spec':List UInt8 → Got} {w:World} {eb:Nat} {lv:Value} {t:ByteArray} {e:Ending} {w':World} (h:PPost spec w eb lv t e w') (hk:spec' t.toList = spec t.toList):PPost spec' w eb lv t e w':=by
 obtain ⟨a,c,out,t',ok,h1,h2,h3,h4,h5,h6,h7⟩:=h
 exact ⟨a,c,out,t',ok,h1,h2,h3,h4,h5,h6,hk.trans h7⟩
set_option maxRecDepth 100000 in
set_option maxHeartbeats 1000000 in
theorem pfield_any {X:List PIV} {n:Nat} (hV:PVal X n) (hL:PLst X n) (w:World) (eb lo:Nat) (la:Option Addr) (ll lc:Nat) (t:ByteArray) (f:PField) (d:Int) (hd:d = (7:Int) - n) (hI:PIts w lo (.slice la ll lc) X) (h:Pe w eb (.slice la ll lc) t) (hE:Env w) (hO:Own eb) (hs:t.size ≤ 400) :
  Calls Tryz.prog 91 #[.pointer (some ⟨eb,0,none⟩),.agg #[.int .i64 f.number,.int .i64 f.numberAt,.string f.name,.int .i64 f.nameAt,.int .i64 f.shape,.string f.base,.int .i64 f.baseAt],.int .i64 d] w (PPost (if f.shape = 2 then (encP X n).2 f.base.toList else (encP X n).1 f.base.toList) w eb (.slice la ll lc) t):=by
 subst hd
 by_cases h2:f.shape = 2
 ·have h2B:((f.shape:Int) == 2) = true:=by simp;omega
  rw [if_pos h2]
  have HC:=hid (fun w' (hb:Below w.heap.size w w')=>hL w' eb lo la ll lc t f.base (hI.below hb) (h.same (hb.block eb h.lt)) (hE.below hb) hO hs)
  clear hI h hE hV hL
  go_enter Tryz.func91,Tryz.ntmps91
  go_wp2_with fail
  refine (HC.out _ ((Below.refl _ _).alloc (Nat.le_refl _) _)).mono ?_;intro e w1 h1
  have HP:=hid (h1.back ((Below.refl _ _).alloc (Nat.le_refl _) _))
  obtain ⟨a,c,out,t',ok,rfl,_⟩:=h1
  go_wp2_with fail
  go_ret2
  exact HP.out
 ·have h2B:((f.shape:Int) == 2) = false:=by simp;omega
  rw [if_neg h2]
  have HC:=hid (fun w' (hb:Below w.heap.size w w')=>hV w' eb lo la ll lc t f.base (hI.below hb) (h.same (hb.block eb h.lt)) (hE.below hb) hO hs)
  clear hI h hE hV hL
  go_enter Tryz.func91,Tryz.ntmps91
  go_wp2_with fail
  refine (HC.out _ ((Below.refl _ _).alloc (Nat.le_refl _) _)).mono ?_;intro e w1 h1
  have HP:=hid (h1.back ((Below.refl _ _).alloc (Nat.le_refl _) _))
  obtain ⟨a,c,out,t',ok,rfl,_⟩:=h1
  go_wp2_with fail
  go_ret2
  exact HP.out
theorem below_store9 {w w0:World} {b:Nat} (d0 d1 d2 d3 d4 d5 d6 d7 d8:Value) (h:Below b w w0):Below b w (((((((((w0.setCell ⟨b,0,none⟩ d0).setCell ⟨b,1,none⟩ d1).setCell ⟨b,2,none⟩ d2).setCell ⟨b,3,none⟩ d3).setCell ⟨b,4,none⟩ d4).setCell ⟨b,5,none⟩ d5).setCell ⟨b,6,none⟩ d6).setCell ⟨b,7,none⟩ d7).setCell ⟨b,8,none⟩ d8) :=
 (((((((((h.setCell (p:=⟨b,0,none⟩) (Nat.le_refl _) d0).setCell (p:=⟨b,1,none⟩) (Nat.le_refl _) d1).setCell (p:=⟨b,2,none⟩) (Nat.le_refl _) d2).setCell (p:=⟨b,3,none⟩) (Nat.le_refl _) d3).setCell (p:=⟨b,4,none⟩) (Nat.le_refl _) d4).setCell (p:=⟨b,5,none⟩) (Nat.le_refl _) d5).setCell (p:=⟨b,6,none⟩) (Nat.le_refl _) d6).setCell (p:=⟨b,7,none⟩) (Nat.le_refl _) d7).setCell (p:=⟨b,8,none⟩) (Nat.le_refl _) d8)
theorem seg_store9 {w0:World} {b:Nat} {T:TypeId} {x0 x1 x2 x3 x4 x5 x6 x7 x8:Value} (d0 d1 d2 d3 d4 d5 d6 d7 d8:Value) (h:Seg w0 b T 0 [x0,x1,x2,x3,x4,x5,x6,x7,x8]):Seg (((((((((w0.setCell ⟨b,0,none⟩ d0).setCell ⟨b,1,none⟩ d1).setCell ⟨b,2,none⟩ d2).setCell ⟨b,3,none⟩ d3).setCell ⟨b,4,none⟩ d4).setCell ⟨b,5,none⟩ d5).setCell ⟨b,6,none⟩ d6).setCell ⟨b,7,none⟩ d7).setCell ⟨b,8,none⟩ d8) b T 0 [d0,d1,d2,d3,d4,d5,d6,d7,d8]:=by
 have k:=(Seg.set (Seg.set (Seg.set (Seg.set (Seg.set (Seg.set (Seg.set (Seg.set (Seg.set h 0 d0) 1 d1) 2 d2) 3 d3) 4 d4) 5 d5) 6 d6) 7 d7) 8 d8)
 simp only [Nat.zero_add] at k
 exact k
theorem pFindI_some {X:List PIV} {name:List UInt8} (h:0 ≤ pFindI X name):∃ (k:Nat) (x:PIV),pFindI X name = (k:Int) ∧ X[k]? = some x ∧ (x.it.kind = 0 ∨ x.it.kind = 1):=by
 unfold pFindI at h ⊢
 cases e:X.findIdx? (fun x=>pMatchB name x.it) with
 | none=>rw [e] at h;simp at h
 | some k =>
  obtain ⟨hlt,hm,_⟩:=List.findIdx?_eq_some_iff_getElem.1 e
  refine ⟨k,X[k],rfl,List.getElem?_eq_getElem hlt,?_⟩
  simp only [pMatchB,pTypeB,Bool.and_eq_true,Bool.or_eq_true,beq_iff_eq] at hm
  exact hm.1
def TypePost (w:World) (X:List PIV) (name:ByteArray) (e:Ending) (w':World):Prop :=
 Below w.heap.size w w' ∧ ((pFindI X name.toList < 0 ∧ e = .returned (.tuple #[.agg #[.int .i64 0,.string ⟨#[]⟩,.int .i64 0,.slice none 0 0,.slice none 0 0,.string ⟨#[]⟩,.int .i64 0,.string ⟨#[]⟩,.int .i64 0],.bool false])) ∨
  ∃ (k:Nat) (x:PIV) (n:Ninth),pFindI X name.toList = (k:Int) ∧ X[k]? = some x ∧ (x.it.kind = 0 ∨ x.it.kind = 1) ∧ x.vf = .slice n.fa x.it.fields.length n.fc ∧ x.vn = .slice n.na x.it.names.length n.nc ∧
   e = .returned (.tuple #[.agg #[.int .i64 x.it.kind,.string x.it.name.text,.int .i64 x.it.name.at_,.slice n.fa x.it.fields.length n.fc,.slice n.na x.it.names.length n.nc,.string n.bb,.int .i64 n.ba,.string n.ab,.int .i64 n.aa],.bool true]))
set_option maxRecDepth 100000 in
set_option maxHeartbeats 1000000 in
theorem schemaType_any (w:World) (lo:Nat) (lv:Value) (X:List PIV) (name:ByteArray) (h:PIts w lo lv X) (hn:Nms X) (hX:X.length ≤ 400) :
  Calls Tryz.prog 52 #[lv,.string name] w (TypePost w X name):=by
 obtain ⟨la,lc,hlv⟩:∃ a c,lv = .slice a X.length c:=own_slice h.own
 subst hlv
 unfold TypePost
 have H:=hid h
 have HN:=hid hn
 clear h hn
 go_enter Tryz.func52,Tryz.ntmps52
 go_wp2_with fail
 have hb0:Below w.heap.size w (w.alloc (.cells #[.int .i64 0,.string ⟨#[]⟩,.int .i64 0,.slice none 0 0,.slice none 0 0,.string ⟨#[]⟩,.int .i64 0,.string ⟨#[]⟩,.int .i64 0] 98)):=(Below.refl _ _).alloc (Nat.le_refl _) _
 refine (findType_any _ lo _ X name (H.out.below hb0) HN.out hX).mono ?_;rintro e w1 ⟨rfl,hb1'⟩
 have hb1:=hb0.trans (hb1'.mono hb0.size)
 have hsg:Seg w1 w.heap.size 98 0 [.int .i64 0,.string ⟨#[]⟩,.int .i64 0,.slice none 0 0,.slice none 0 0,.string ⟨#[]⟩,.int .i64 0,.string ⟨#[]⟩,.int .i64 0]:=(seg_made w _ _).same (hb1'.block _ (by simp))
 have r0:=hsg.cell (j:=0) rfl
 have r1:=hsg.cell (j:=1) rfl
 have r2:=hsg.cell (j:=2) rfl
 have r3:=hsg.cell (j:=3) rfl
 have r4:=hsg.cell (j:=4) rfl
 have r5:=hsg.cell (j:=5) rfl
 have r6:=hsg.cell (j:=6) rfl
 have r7:=hsg.cell (j:=7) rfl
 have r8:=hsg.cell (j:=8) rfl
 simp only [Nat.zero_add] at r0 r1 r2 r3 r4 r5 r6 r7 r8
 have hlt1:=hsg.lt
 have q0:=hsg.frozen 0
 have q1:=hsg.frozen 1
 have q2:=hsg.frozen 2
 have q3:=hsg.frozen 3
 have q4:=hsg.frozen 4
 have q5:=hsg.frozen 5
 have q6:=hsg.frozen 6
 have q7:=hsg.frozen 7
 have q8:=hsg.frozen 8
 have HSG:=hid hsg
 clear hsg hb1'
 by_cases hneg:pFindI X name.toList < 0
 ·have HNEG:=hid hneg
  go_wp2_with fail
  have hse:=seg_store9 (.int .i64 0) (.string ⟨#[]⟩) (.int .i64 0) (.slice none 0 0) (.slice none 0 0) (.string ⟨#[]⟩) (.int .i64 0) (.string ⟨#[]⟩) (.int .i64 0) HSG.out
  have z0:=hse.cell (j:=0) rfl
  have z1:=hse.cell (j:=1) rfl
  have z2:=hse.cell (j:=2) rfl
  have z3:=hse.cell (j:=3) rfl
  have z4:=hse.cell (j:=4) rfl
  have z5:=hse.cell (j:=5) rfl
  have z6:=hse.cell (j:=6) rfl
  have z7:=hse.cell (j:=7) rfl
  have z8:=hse.cell (j:=8) rfl
  simp only [Nat.zero_add] at z0 z1 z2 z3 z4 z5 z6 z7 z8
  refine bodyPost_ret (v:=.tuple #[.agg #[.int .i64 0,.string ⟨#[]⟩,.int .i64 0,.slice none 0 0,.slice none 0 0,.string ⟨#[]⟩,.int .i64 0,.string ⟨#[]⟩,.int .i64 0],.bool false]) (by simp [results,Tryz.results52,go_sem,z0,z1,z2,z3,z4,z5,z6,z7,z8]) rfl ⟨below_store9 _ _ _ _ _ _ _ _ _ hb1,Or.inl ⟨HNEG.out,rfl⟩⟩
 ·obtain ⟨k,x,hk,hx,hkd⟩:=pFindI_some (X:=X) (name:=name.toList) (by omega)
  have HK:=hid hk
  rw [hk] at hneg ⊢
  have hlt:k < X.length:=at_lt hx
  obtain ⟨g,cap,hv,hgl,hgs⟩:=own_form H.out.own (by omega)
  obtain ⟨rfl,rfl⟩:la = some ⟨g,0,none⟩ ∧ lc = cap:=by simpa using hv
  obtain ⟨n,hn⟩:=(H.out.below hb1).itemAt HN.out hx
  have hs:=hn.seg
  have HX:=hid hx
  have HVF:=hid hn.vf
  have HVN:=hid hn.vn
  have HKD:=hid hkd
  clear hx hv hn hk hkd
  have c0:=hs.cell (j:=0) rfl
  have c1:=hs.cell (j:=1) rfl
  have c2:=hs.cell (j:=2) rfl
  have c3:=hs.cell (j:=3) rfl
  have c4:=hs.cell (j:=4) rfl
  have c5:=hs.cell (j:=5) rfl
  have c6:=hs.cell (j:=6) rfl
  have c7:=hs.cell (j:=7) rfl
  have c8:=hs.cell (j:=8) rfl
  simp only [Nat.add_zero] at c0
  clear hs
  have hk0:¬ (k:Int) < 0:=by omega
  clear hneg
  go_wp2_with fail
  have hse:=seg_store9 (.int .i64 x.it.kind) (.string x.it.name.text) (.int .i64 x.it.name.at_) (.slice n.fa x.it.fields.length n.fc) (.slice n.na x.it.names.length n.nc) (.string n.bb) (.int .i64 n.ba) (.string n.ab) (.int .i64 n.aa) HSG.out
  have z0:=hse.cell (j:=0) rfl
  have z1:=hse.cell (j:=1) rfl
  have z2:=hse.cell (j:=2) rfl
  have z3:=hse.cell (j:=3) rfl
  have z4:=hse.cell (j:=4) rfl
  have z5:=hse.cell (j:=5) rfl
  have z6:=hse.cell (j:=6) rfl
  have z7:=hse.cell (j:=7) rfl
  have z8:=hse.cell (j:=8) rfl
  simp only [Nat.zero_add] at z0 z1 z2 z3 z4 z5 z6 z7 z8
  refine bodyPost_ret (v:=.tuple #[.agg #[.int .i64 x.it.kind,.string x.it.name.text,.int .i64 x.it.name.at_,.slice n.fa x.it.fields.length n.fc,.slice n.na x.it.names.length n.nc,.string n.bb,.int .i64 n.ba,.string n.ab,.int .i64 n.aa],.bool true]) (by simp [results,Tryz.results52,go_sem,z0,z1,z2,z3,z4,z5,z6,z7,z8]) rfl ⟨below_store9 _ _ _ _ _ _ _ _ _ hb1,Or.inr ⟨k,x,n,HK.out,HX.out,HKD.out,HVF.out,HVN.out,rfl⟩⟩
end Go.Proofs.YtdgcamlmjmnpeaaGreatDoor
namespace Go.Proofs.YtdgcamlmjmnpeaaGreatDoor
open Go.RowKit
theorem key_list (a b:ByteArray):((a ++ b) ++ ByteArray.mk #[58]).toList = a.toList ++ b.toList ++ [58]:=by
 simp [ByteArray.toList_eq]
theorem btw_size (b:Bool):(btw b).size ≤ 1:=by cases b <;> decide
theorem key_take {p t t1:List UInt8} (h:(eatP p t).isSome = true) (h1:t1 = (eatP p t).getD t):t = p ++ t1 ∧ eatP p t = some t1:=by
 cases e:eatP p t with
 | none=>rw [e] at h;cases h
 | some r=>rw [e] at h1;simp at h1;subst h1;exact ⟨eatP_some e,rfl⟩
theorem apt_grew {w w':World} {lo:Nat} {v v' u:Value} {L:List UInt8} (h:Bys w lo u L) (ha:Apt v u) (hg:Grew w w' v v'):Apt v' u:=fun b h1 h3=>by
 rcases hg.b b h1 with h | hge
 ·exact ha b h h3
 ·have:=(h.lt b h3).2;omega
theorem bys_grew {w w':World} {lo:Nat} {v v' u:Value} {L:List UInt8} (h:Bys w lo u L) (ha:Apt v u) (hg:Grew w w' v v'):Bys w' lo u L :=
 own_same h (fun g hgk=>hg.g.block g (h.lt g hgk).2 (fun e=>ha g e.symm hgk))
theorem fdAt {fs:List PField} {j:Nat} {f:PField} (h:fs[j]? = some f):(fs.map fdP)[j]? = some (fdP f):=by rw [List.getElem?_map,h];rfl
set_option maxRecDepth 100000 in
set_option maxHeartbeats 4000000 in
theorem pmessage_any {X:List PIV} {n:Nat} (hV:PVal X n) (hL:PLst X n) (w:World) (eb lo:Nat) (la:Option Addr) (ll lc:Nat) (t:ByteArray) (fv:Value) (fs:List PField) (d:Int) (hd:d + 1 = (7:Int) - n) (hn6:n ≤ 6) (hI:PIts w lo (.slice la ll lc) X) (h:Pe w eb (.slice la ll lc) t) (hE:Env w) (hO:Own eb) (hs:t.size ≤ 400)
  (hF:w.ownsRow lo 152 7 fv fs.length (fs.flatMap pfCells)) (hl:fs.length ≤ 400) (hnum:∀ f ∈ fs,0 ≤ f.number ∧ f.number ≤ 99) (hnm:∀ f ∈ fs,1 ≤ f.name.size ∧ f.name.size ≤ 400) :
  Calls Tryz.prog 54 #[.pointer (some ⟨eb,0,none⟩),fv,.int .i64 d] w (PPost (msgP (encP X n).1 (encP X n).2 (fs.map fdP)) w eb (.slice la ll lc) t):=by
 unfold PPost
 obtain ⟨fa,fc,hfv⟩:∃ a c,fv = .slice a fs.length c:=own_slice hF
 subst hfv
 have hd6:¬ (6:Int) < d:=by omega
 have hdl:(0:Int) ≤ d:=by omega
 have hdu:d ≤ 6:=by omega
 have HD:=hid hd
 clear hd
 have H:=hid h
 have HI:=hid hI
 have HE:=hid hE
 have HV:=hid hV
 have HL:=hid hL
 have HF:=hid hF
 have HNUM:=hid hnum
 have HNM:=hid hnm
 clear h hI hE hV hL hF hnum hnm
 obtain ⟨G,hG⟩:∃ G,msgP (encP X n).1 (encP X n).2 (fs.map fdP) t.toList = G:=⟨_,rfl⟩
 rw [hG]
 have HG:=hid (show G = (eatP [123] t.toList).bind (fieldsGo (encP X n).1 (encP X n).2 (fs.map fdP) true) by rw [← hG];rfl)
 clear hG
 go_enter Tryz.func54,Tryz.ntmps54
 go_wp2_with fail
 refine (take_any w eb la ll lc t (ByteArray.mk #[123]) H.out).mono ?_;rintro e w1 ⟨t1,rfl,hb1,hp1,ht1⟩
 rw [openB] at ht1 ⊢
 have HP1:=hid hp1
 have HT1:=hid ht1
 clear hp1 ht1
 cases hr:(eatP [123] t.toList).isSome with
 | false =>
  have HR:=hid hr
  clear hr
  have hte:t1 = t:=take_false HR.out HT1.out
  subst hte
  go_wp2_with fail
  go_ret2
  exact ⟨none,0,[],t1,false,rfl,World.ownsRow_nil _ _ _ _,hb1,HP1.out,Nat.le_refl _,by simp,by rw [HG.out,eat_none HR.out];rfl⟩
 | true =>
  have HTT:=hid (take_true hr HT1.out)
  clear hr
  have hs1:t1.size < t.size:=by rw [← size_list,← size_list t,HTT.out];simp
  have HF0:=hid (show FSp G (encP X n).1 (encP X n).2 (fs.map fdP) t1.toList 0 true [] from by unfold FSp;rw [HG.out,HTT.out];simp [eatP,List.isPrefixOf])
  have hz1:=hb1.size
  go_wp2_with fail
  go_loopg [8,9,11,12,13,23] fs.length (fun gk d8 b9 f11 x12 x13 i23 wr=>∃ (j:Nat) (first:Bool) (out:List UInt8) (tr:ByteArray),j + gk = fs.length ∧ i23 = .int .i64 j ∧ b9 = .string (btw first) ∧ tr.size ≤ t1.size ∧ out.length ≤ 2 * (t.size - tr.size) ∧ Hid (Pe wr eb (.slice la ll lc) tr) ∧ Hid (Bys wr w.heap.size d8 out) ∧ But eb w wr ∧ Hid (FSp G (encP X n).1 (encP X n).2 (fs.map fdP) tr.toList j first out))
  case atStart=>exact ⟨0,true,[],t1,by omega,rfl,rfl,Nat.le_refl _,by simp,hid HP1.out,hid (World.ownsRow_nil _ _ _ _),hb1,hid HF0.out⟩
  case round =>
   obtain ⟨j,first,out,tr,hj,rfl,rfl,hle,hol,HP,HB,hbut,HS⟩:=hrel
   obtain ⟨oa,oc,hov⟩:∃ a c,u8 = .slice a out.length c:=own_slice HB.out
   subst hov
   have hsz:=hbut.size
   by_cases hlt:j < fs.length
   ·obtain ⟨f,hf⟩:∃ f,fs[j]? = some f:=⟨fs[j],List.getElem?_eq_getElem hlt⟩
    have hfm:=List.mem_of_getElem? hf
    obtain ⟨hn0,hn99⟩:=HNUM.out f hfm
    obtain ⟨hm1,hm400⟩:=HNM.out f hfm
    have HFr:=hid (own_same HF.out (fun g hg=>hbut.block g (HF.out.lt g hg).2 (own_seg_ne HF.out H.out (by decide) hg)):wr.ownsRow lo 152 7 (.slice fa fs.length fc) fs.length (fs.flatMap pfCells))
    obtain ⟨g,cap,hv,hgl,hgs,hsg⟩:=pfield_seg HFr.out hf
    obtain ⟨rfl,rfl⟩:fa = some ⟨g,0,none⟩ ∧ fc = cap:=by simpa using hv
    have HFD:=hid (fdAt hf)
    obtain ⟨num,numAt,name,nameAt,shape,base,baseAt⟩:=f
    simp only at hn0 hn99 hm1 hm400
    obtain ⟨fn,rfl⟩:∃ fn:Nat,num = (fn:Int):=⟨num.toNat,by omega⟩
    have c0:wr.cell? ⟨g,j * 7,none⟩ = some (.int .i64 fn):=hsg.cell (j:=0) rfl
    have c1:wr.cell? ⟨g,j * 7 + 1,none⟩ = some (.int .i64 numAt):=hsg.cell (j:=1) rfl
    have c2:wr.cell? ⟨g,j * 7 + 2,none⟩ = some (.string name):=hsg.cell (j:=2) rfl
    have c3:wr.cell? ⟨g,j * 7 + 3,none⟩ = some (.int .i64 nameAt):=hsg.cell (j:=3) rfl
    have c4:wr.cell? ⟨g,j * 7 + 4,none⟩ = some (.int .i64 shape):=hsg.cell (j:=4) rfl
    have c5:wr.cell? ⟨g,j * 7 + 5,none⟩ = some (.string base):=hsg.cell (j:=5) rfl
    have c6:wr.cell? ⟨g,j * 7 + 6,none⟩ = some (.int .i64 baseAt):=hsg.cell (j:=6) rfl
    have HKL:=hid (key_list (btw first) name)
    have hbws:=btw_size first
    have HBL:=hid (btw_list first)
    clear hsg hv hf hfm
    generalize hbw:btw first = bw at *
    have HBW:=hid hbw
    clear hbw
    go_wp2_with fail
    clear c0 c1 c2 c3 c4 c5 c6
    have hba:Below wr.heap.size wr (wr.alloc (.cells #[.int .i64 fn,.int .i64 numAt,.string name,.int .i64 nameAt,.int .i64 shape,.string base,.int .i64 baseAt] 152)):=(Below.refl _ _).alloc (Nat.le_refl _) _
    have hsa:Seg (wr.alloc (.cells #[.int .i64 fn,.int .i64 numAt,.string name,.int .i64 nameAt,.int .i64 shape,.string base,.int .i64 baseAt] 152)) wr.heap.size 152 0 [.int .i64 fn,.int .i64 numAt,.string name,.int .i64 nameAt,.int .i64 shape,.string base,.int .i64 baseAt]:=seg_made wr _ _
    generalize (wr.alloc (.cells #[.int .i64 fn,.int .i64 numAt,.string name,.int .i64 nameAt,.int .i64 shape,.string base,.int .i64 baseAt] 152)) = wa at *
    have HPa:=hid (HP.out.same (hba.block eb HP.out.lt))
    have HBa:=hid (HB.out.same hba)
    have hne:wr.heap.size ≠ eb:=by have:=HP.out.lt;omega
    refine (take_any wa eb la ll lc tr (bw ++ name ++ ByteArray.mk #[58]) HPa.out).mono ?_;rintro e w2 ⟨t2,rfl,hb2,hp2,ht2⟩
    rw [HKL.out] at ht2 ⊢
    have hsg2:=hsa.same (hb2.block _ hsa.lt hne)
    have HB2:=hid (HBa.out.but (show Seg _ _ _ _ _ from HPa.out) (by decide) hb2)
    have hbut2:=(hbut.trans (But.ofBelow hba)).trans hb2
    have HP2:=hid hp2
    have HT2:=hid ht2
    have hz2:=hbut2.size
    have d0:=hsg2.cell (j:=0) rfl
    have d1:=hsg2.cell (j:=1) rfl
    have d2:=hsg2.cell (j:=2) rfl
    have d3:=hsg2.cell (j:=3) rfl
    have d4:=hsg2.cell (j:=4) rfl
    have d5:=hsg2.cell (j:=5) rfl
    have d6:=hsg2.cell (j:=6) rfl
    simp only [Nat.zero_add] at d0 d1 d2 d3 d4 d5 d6
    have HSG2:=hid hsg2
    clear hp2 ht2 hsa hsg2
    cases hr2:(eatP (bw.toList ++ name.toList ++ [58]) tr.toList).isSome with
    | false =>
     have hte:t2 = tr:=take_false hr2 HT2.out
     subst hte
     have HEN:=hid (show eatP ((if first then [] else [44]) ++ name.toList ++ [58]) t2.toList = none by rw [← HBL.out];exact eat_none hr2)
     clear hr2
     by_cases hsh:shape = 1
     ·have HN:=hid (HS.out.skip HFD.out HEN.out hsh)
      subst hsh
      go_wp2_with fail
      go_roundg (gk - 1)
      case rel=>exact ⟨j + 1,first,out,t2,by omega,by go_num,by rw [HBW.out],hle,hol,hid HP2.out,hid HB2.out,hbut2,hid HN.out⟩
      case measure=>omega
     ·have HN:=hid (HS.out.lack HFD.out HEN.out hsh)
      have hshB:((shape:Int) == 1) = false:=by simp;omega
      go_wp2_with fail
      go_ret2
      exact ⟨none,0,[],t2,false,rfl,World.ownsRow_nil _ _ _ _,hbut2,HP2.out,by omega,by simp,HN.out⟩
    | true =>
     obtain ⟨hk1,hk2⟩:=key_take hr2 HT2.out
     have hs2:t2.size + name.size + 1 ≤ tr.size:=by
      have:=congrArg List.length hk1
      simp only [List.length_append,List.length_singleton,size_list] at this
      omega
     have HVV:=hid (HS.out.value HFD.out (T1:=t2.toList) (by rw [← HBL.out];exact hk2))
     have HI2:=hid (HI.out.but H.out hbut2)
     have HE2:=hid (HE.out.but hbut2 hO)
     clear hr2 hk1 hk2 HT2
     go_wp2_with fail
     refine (pfield_any HV.out HL.out w2 eb lo la ll lc t2 ⟨(fn:Int),numAt,name,nameAt,shape,base,baseAt⟩ (d + 1) HD.out HI2.out HP2.out HE2.out hO (by omega)).mono ?_
     rintro e w4 ⟨a4,c4,v4,t4,ok4,rfl,hb4,hb44,hp4,hs4,hl4,hsp4⟩
     have HP4:=hid hp4
     have HB4v:=hid hb4
     have HB4o:=hid (HB2.out.but (show Seg _ _ _ _ _ from HP2.out) (by decide) hb44)
     have hbut4:=hbut2.trans hb44
     have hz4:=hbut4.size
     have HAP:=hid (apt_new HB2.out hb4)
     have HSP:=hid hsp4
     have hsg4:=HSG2.out.same (hb44.block _ HSG2.out.lt hne)
     clear d0 d1 d2 d3 d4 d5 d6
     have d0:=hsg4.cell (j:=0) rfl
     simp only [Nat.zero_add] at d0
     clear hp4 hb4 hsp4 hsg4
     cases ok4 with
     | false =>
      have HN:=hid (HVV.out.1 (by have:=HSP.out;simp only [fdP] at this ⊢;split at this <;> simp_all))
      clear HVV HSP
      go_wp2_with fail
      go_ret2
      exact ⟨none,0,[],t4,false,rfl,World.ownsRow_nil _ _ _ _,hbut4,HP4.out,by omega,by simp,HN.out⟩
     | true =>
      have HN:=hid (HVV.out.2 v4 t4.toList (by have:=HSP.out;simp only [fdP] at this ⊢;split at this <;> simp_all))
      clear HVV HSP
      go_wp2_with fail
      refine (numAppend_any w4 w.heap.size _ out fn HB4o.out (by omega) (by omega) hz4).mono ?_;rintro e w5 ⟨a5,c5,rfl,hb5,hg5⟩
      have HP5:=hid (HP4.out.grew (Below.refl _ _) HB4o.out hg5)
      have hbut5:=hbut4.grew (Below.refl _ _) HB4o.out hg5
      have HB5:=hid hb5
      have HB5v:=hid (bys_grew HB4v.out HAP.out hg5)
      have HAP5:=hid (apt_grew HB4v.out HAP.out hg5)
      have hol5:(out ++ vint fn).length ≤ out.length + 1:=by rw [List.length_append,vint_lt (by omega)];simp
      have HN5:=hid (show FSp G (encP X n).1 (encP X n).2 (fs.map fdP) t4.toList (j + 1) false ((out ++ vint fn) ++ vsized v4) from HN.out)
      generalize out ++ vint fn = out5 at *
      have hz5:=hbut5.size
      clear hb5 hg5 HN
      go_wp2_with fail
      refine (appendCounted_any w5 w.heap.size _ _ _ out5 v4 HB5.out HB5v.out HAP5.out (by omega) (by omega) hz5).mono ?_;rintro e w6 ⟨a6,c6,rfl,hb6,hg6⟩
      have HP6:=hid (HP5.out.grew (Below.refl _ _) HB5.out hg6)
      have hbut6:=hbut5.grew (Below.refl _ _) HB5.out hg6
      have HB6:=hid hb6
      have hol6:(out5 ++ vsized v4).length ≤ out5.length + v4.length + 2:=by rw [List.length_append];have:=vsized_len (b:=v4) (by omega);omega
      generalize out5 ++ vsized v4 = out6 at *
      clear hb6 hg6
      go_wp2_with fail
      go_roundg (gk - 1)
      case rel=>exact ⟨j + 1,false,out6,t4,by omega,by go_num,rfl,by omega,by omega,hid HP6.out,hid HB6.out,hbut6,hid HN5.out⟩
      case measure=>omega
   ·have HEnd:=hid (HS.out.shut (by rw [List.length_map];omega))
    go_wp2_with fail
    refine (take_any wr eb la ll lc tr (ByteArray.mk #[125]) HP.out).mono ?_;rintro e w2 ⟨t2,rfl,hb2,hp2,ht2⟩
    rw [closeB] at ht2 ⊢
    have HP2:=hid hp2
    have HT2:=hid ht2
    have HB2:=hid (HB.out.but (show Seg _ _ _ _ _ from HP.out) (by decide) hb2)
    have hbut2:=hbut.trans hb2
    clear hp2 ht2
    cases hr2:(eatP [125] tr.toList).isSome with
    | true =>
     have HTT2:=hid (take_true hr2 HT2.out)
     have hs2:t2.size < tr.size:=by rw [← size_list,← size_list tr,HTT2.out];simp
     clear hr2
     go_wp2_with fail
     go_ret2
     exact ⟨oa,oc,out,t2,true,rfl,HB2.out,hbut2,HP2.out,by omega,by omega,by rw [HEnd.out,HTT2.out];simp [eatP,List.isPrefixOf]⟩
    | false =>
     have hte:t2 = tr:=take_false hr2 HT2.out
     subst hte
     have HNS:=hid (eat_none hr2)
     clear hr2
     go_wp2_with fail
     go_ret2
     exact ⟨oa,oc,out,t2,false,rfl,HB2.out,hbut2,HP2.out,by omega,by omega,by rw [HEnd.out,HNS.out];rfl⟩
end Go.Proofs.YtdgcamlmjmnpeaaGreatDoor
namespace Go.Proofs.YtdgcamlmjmnpeaaGreatDoor
open Go.RowKit
def ChoPost (w:World) (L:List PTok) (e:Ending) (w':World):Prop:=∃ (a:Option Addr) (c:Nat),e = .returned (.slice a L.length c) ∧ w'.ownsRow w.heap.size 9 1 (.slice a L.length c) L.length (L.map fun t=>strCell t.text) ∧ Below w.heap.size w w'
set_option maxRecDepth 100000 in
set_option maxHeartbeats 1000000 in
theorem choices_any (w:World) (lo:Nat) (c0 c1 c2:Value) (fa na:Option Addr) (fl fc nc:Nat) (c5 c6 c7 c8:Value) (L:List PTok) (h:w.ownsRow lo 94 2 (.slice na L.length nc) L.length (L.flatMap nameCells)) (hl:L.length ≤ 400) :
  Calls Tryz.prog 53 #[.agg #[c0,c1,c2,.slice fa fl fc,.slice na L.length nc,c5,c6,c7,c8]] w (ChoPost w L):=by
 unfold ChoPost
 have H:=hid h
 clear h
 go_enter Tryz.func53,Tryz.ntmps53
 go_wp2_with fail
 have hb0:Below w.heap.size w (w.alloc (.cells #[c0,c1,c2,.slice fa fl fc,.slice na L.length nc,c5,c6,c7,c8] 98)):=(Below.refl _ _).alloc (Nat.le_refl _) _
 go_loopg [3,5,9] L.length (fun gk nv f i wr=>∃ k:Nat,k + gk = L.length ∧ i = .int .i64 k ∧ Hid (wr.ownsRow w.heap.size 9 1 nv k ((L.take k).map fun t=>strCell t.text)) ∧ Below w.heap.size w wr)
 case atStart=>exact ⟨0,by omega,rfl,hid (World.ownsRow_nil _ _ _ _),hb0⟩
 case round =>
  obtain ⟨k,hk,rfl,HO,hbel⟩:=hrel
  have hsz:=hbel.size
  by_cases hlt:k < L.length
  ·obtain ⟨f,hf⟩:∃ f,L[k]? = some f:=⟨L[k],List.getElem?_eq_getElem hlt⟩
   obtain ⟨ta,tc,hnv⟩:∃ a c,u3 = .slice a k c:=own_slice HO.out
   subst hnv
   obtain ⟨g,cap,hv,hgl,hgs,hs⟩:=pname_seg (own_same H.out (fun g hg=>hbel.block g (H.out.lt g hg).2)) hf
   obtain ⟨rfl,rfl⟩:na = some ⟨g,0,none⟩ ∧ nc = cap:=by simpa using hv
   have HF:=hid (show (L.take (k + 1)).map (fun t=>strCell t.text) = (L.take k).map (fun t=>strCell t.text) ++ [strCell f.text] by rw [List.take_add_one,hf];simp)
   have e0:wr.cell? ⟨g,k * 2,none⟩ = some (.string f.text):=hs.cell (j:=0) rfl
   have e1:wr.cell? ⟨g,k * 2 + 1,none⟩ = some (.int .i64 f.at_):=hs.cell (j:=1) rfl
   clear hs hv hf
   go_wp2_with (at_builtin;refine wpList_append_gen _ rfl _ _ 22 9 (.string ⟨#[]⟩) 1 16 rfl Tryz.underlying22 rfl rfl (by omega) _ k _ w.heap.size rfl ((HO.out.alloc _).alloc _) ⟨_,0,none⟩ 1 1 [strCell f.text] rfl rfl (cells_new_at _ _ (by simp) #[.string f.text] _) (by simp [strCell,Value.oneCell']) _ rfl _ rfl (by unfold maxLen;omega) (by omega) (by simp;omega) ?_)
   intro g5 cp5 w5 hown5 hgrow5
   have hb5:Below w.heap.size w w5:=((hbel.alloc hsz _).alloc (by simp;omega) _).trans (hgrow5.below (fun q hq=>(HO.out.lt q hq).1) (by simp;omega))
   clear hgrow5
   go_wp2_with fail
   go_roundg (gk - 1)
   case rel=>exact ⟨k + 1,by omega,by go_num,hid (by rw [HF.out];simpa using hown5),hb5⟩
   case measure=>omega
  ·have HE:=hid (show L.take k = L from List.take_of_length_le (by omega))
   go_wp2_with fail
   go_ret
   have ho:=HO.out
   rw [HE.out] at ho
   obtain ⟨ta,tc,hnv⟩:∃ a c,u3 = .slice a k c:=own_slice HO.out
   have hkl:k = L.length:=by omega
   subst hkl
   subst hnv
   exact ⟨ta,tc,rfl,ho,hbel⟩
end Go.Proofs.YtdgcamlmjmnpeaaGreatDoor

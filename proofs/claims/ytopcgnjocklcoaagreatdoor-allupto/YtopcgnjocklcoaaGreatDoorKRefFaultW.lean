/- faultIn of package courierref: the walk. -/
import Derived.Test.YtopcgnjocklcoaaGreatDoorMRefFault
namespace Go.Proofs.YtopcgnjocklcoaaGreatDoor
open Go.RowKit
set_option maxRecDepth 100000 in
set_option maxHeartbeats 8000000 in
theorem faultIn_any (w:World) (lo:Nat) (lv:Value) (X:List IV) (i:Nat) (x:IV) (h:Its w lo lv X) (hi:X[i]? = some x) (hX:X.length ≤ 400) (hU:(univ X x.it.name).length ≤ 1000) (hn1:x.it.namesAt.length = x.it.names.length) (hn2:x.it.basesAt.length = x.it.bases.length) (hn3:x.it.names.length ≤ 400) (hn4:x.it.bases.length ≤ 400) :
  Calls Tryz.prog 27 #[lv,.int .i64 i] w fun e w'=>e = .returned (.int .i64 (leastL (faultPl X i x.it))) ∧ Below w.heap.size w w':=by
 have hil:i < X.length:=by
  rcases Nat.lt_or_ge i X.length with h | h
  ·exact h
  ·rw [List.getElem?_eq_none h] at hi;cases hi
 obtain ⟨lg,lc,hlv,hl1,hl2⟩:=own_form h.own (by omega)
 subst hlv
 have hs:=h.seg hi
 obtain ⟨af,cf,hvf⟩:∃ a c,x.vf = .slice a x.it.fields.length c:=own_slice (h.nest x (List.mem_of_getElem? hi)).f
 obtain ⟨an,cn,hvn⟩:∃ a c,x.vn = .slice a x.it.names.length c:=own_slice (h.nest x (List.mem_of_getElem? hi)).n
 obtain ⟨ab,cb,hvb⟩:∃ a c,x.vb = .slice a x.it.bases.length c:=own_slice (h.nest x (List.mem_of_getElem? hi)).b
 obtain ⟨aa,ca,hva⟩:∃ a c,x.vna = .slice a x.it.namesAt.length c:=own_slice (h.nest x (List.mem_of_getElem? hi)).na
 obtain ⟨az,cz,hvz⟩:∃ a c,x.vba = .slice a x.it.basesAt.length c:=own_slice (h.nest x (List.mem_of_getElem? hi)).ba
 obtain ⟨it,vf,vn,vna,vb,vba⟩:=x
 simp only at hva hvz hvf hvn hvb hU hn1 hn2 hn3 hn4
 subst hvf hvn hvb hva hvz
 have c0:w.cell? ⟨lg,i * 8,none⟩ = some (.string it.kind):=hs.cell (j:=0) rfl
 have c1:w.cell? ⟨lg,i * 8 + 1,none⟩ = some (.string it.name):=hs.cell (j:=1) rfl
 have c2:w.cell? ⟨lg,i * 8 + 2,none⟩ = some (.int .i64 it.nameAt):=hs.cell (j:=2) rfl
 have c3:w.cell? ⟨lg,i * 8 + 3,none⟩ = some (.slice af it.fields.length cf):=hs.cell (j:=3) rfl
 have c4:w.cell? ⟨lg,i * 8 + 4,none⟩ = some (.slice an it.names.length cn):=hs.cell (j:=4) rfl
 have c5:w.cell? ⟨lg,i * 8 + 5,none⟩ = some (.slice aa it.namesAt.length ca):=hs.cell (j:=5) rfl
 have c6:w.cell? ⟨lg,i * 8 + 6,none⟩ = some (.slice ab it.bases.length cb):=hs.cell (j:=6) rfl
 have c7:w.cell? ⟨lg,i * 8 + 7,none⟩ = some (.slice az it.basesAt.length cz):=hs.cell (j:=7) rfl
 have H:=hid h
 have HI:=hid hi
 have HU:=hid hU
 have HN1:=hid hn1
 have HN2:=hid hn2
 clear h hi hs hU hn1 hn2
 generalize hR:leastL (faultPl X i it) = R
 have HR:=hid hR
 clear hR
 go_enter Tryz.func27,Tryz.ntmps27
 go_wp2_with fail
 have hb0:Below w.heap.size w (w.alloc (.cells #[.string it.kind,.string it.name,.int .i64 it.nameAt,.slice af it.fields.length cf,.slice an it.names.length cn,.slice aa it.namesAt.length ca,.slice ab it.bases.length cb,.slice az it.basesAt.length cz] 96)):=(Below.refl _ _).alloc (Nat.le_refl _) _
 have hbox:Seg (w.alloc (.cells #[.string it.kind,.string it.name,.int .i64 it.nameAt,.slice af it.fields.length cf,.slice an it.names.length cn,.slice aa it.namesAt.length ca,.slice ab it.bases.length cb,.slice az it.basesAt.length cz] 96)) w.heap.size 96 0 (ivCells ⟨it,.slice af it.fields.length cf,.slice an it.names.length cn,.slice aa it.namesAt.length ca,.slice ab it.bases.length cb,.slice az it.basesAt.length cz⟩) :=
  ⟨_,heap_alloc_new w _,by simp [ivCells],by simp [ivCells]⟩
 generalize hw0:w.alloc (.cells #[.string it.kind,.string it.name,.int .i64 it.nameAt,.slice af it.fields.length cf,.slice an it.names.length cn,.slice aa it.namesAt.length ca,.slice ab it.bases.length cb,.slice az it.basesAt.length cz] 96) = w0 at *
 clear hw0 c0 c1 c2 c3 c4 c5 c6 c7
 have HB0:=hid hb0
 have HBX:=hid hbox
 have HI0:=hid (H.out.same hb0)
 clear hb0 hbox
 go_loopg [6,7,8,9] i (fun gk p k a b wr=>∃ j:Nat,j + gk = i ∧ k = .int .i64 j ∧ p = .int .i64 (leastL (opt1 (dupB X j it) it.nameAt)) ∧ Below w0.heap.size w0 wr)
 case atStart=>exact ⟨0,by omega,rfl,by rw [dupB_zero];rfl,Below.refl _ _⟩
 case round =>
  obtain ⟨j,hj,rfl,rfl,hbel⟩:=hrel
  have hbx:=HBX.out.same (hbel.block _ HBX.out.lt)
  have c0:wr.cell? ⟨w.heap.size,0,none⟩ = some (.string it.kind):=hbx.cell (j:=0) rfl
  have c1:wr.cell? ⟨w.heap.size,1,none⟩ = some (.string it.name):=hbx.cell (j:=1) rfl
  have c2:wr.cell? ⟨w.heap.size,2,none⟩ = some (.int .i64 it.nameAt):=hbx.cell (j:=2) rfl
  have c3:wr.cell? ⟨w.heap.size,3,none⟩ = some (.slice af it.fields.length cf):=hbx.cell (j:=3) rfl
  have c4:wr.cell? ⟨w.heap.size,4,none⟩ = some (.slice an it.names.length cn):=hbx.cell (j:=4) rfl
  have c5:wr.cell? ⟨w.heap.size,5,none⟩ = some (.slice aa it.namesAt.length ca):=hbx.cell (j:=5) rfl
  have c6:wr.cell? ⟨w.heap.size,6,none⟩ = some (.slice ab it.bases.length cb):=hbx.cell (j:=6) rfl
  have c7:wr.cell? ⟨w.heap.size,7,none⟩ = some (.slice az it.basesAt.length cz):=hbx.cell (j:=7) rfl
  clear hbx
  by_cases hlt:j < i
  ·obtain ⟨y,hy⟩:∃ y,X[j]? = some y:=⟨X[j]'(by omega),List.getElem?_eq_getElem (by omega)⟩
   have hys:=(HI0.out.same hbel).seg hy
   obtain ⟨yt,yf,yn,yna,yb,yba⟩:=y
   have hD:=dupB_succ it hy
   go_wp2_with fail
   refine (typed_any _ _ _ _ _ _ _ _ _).mono ?_;rintro e w1 ⟨rfl,hb1⟩
   have hb01:=hbel.trans (hb1.mono hbel.size)
   have hys1:=hys.same (hb1.block _ hys.lt)
   have d0:w1.cell? ⟨lg,j * 8,none⟩ = some (.string yt.kind):=hys1.cell (j:=0) rfl
   have d1:w1.cell? ⟨lg,j * 8 + 1,none⟩ = some (.string yt.name):=hys1.cell (j:=1) rfl
   have d2:w1.cell? ⟨lg,j * 8 + 2,none⟩ = some (.int .i64 yt.nameAt):=hys1.cell (j:=2) rfl
   have d3:w1.cell? ⟨lg,j * 8 + 3,none⟩ = some yf:=hys1.cell (j:=3) rfl
   have d4:w1.cell? ⟨lg,j * 8 + 4,none⟩ = some yn:=hys1.cell (j:=4) rfl
   have d5:w1.cell? ⟨lg,j * 8 + 5,none⟩ = some yna:=hys1.cell (j:=5) rfl
   have d6:w1.cell? ⟨lg,j * 8 + 6,none⟩ = some yb:=hys1.cell (j:=6) rfl
   have d7:w1.cell? ⟨lg,j * 8 + 7,none⟩ = some yba:=hys1.cell (j:=7) rfl
   have HD:=hid hD
   clear c0 c1 c2 c3 c4 c5 c6 c7 hys hD hy hbel hb1
   have HYS:=hid hys1
   clear hys1
   go_wp2_with fail
   refine (typed_any _ _ _ _ _ _ _ _ _).mono ?_;rintro e w2 ⟨rfl,hb2⟩
   have hb02:=hb01.trans (hb2.mono hb01.size)
   have hbx:=HBX.out.same (hb02.block _ HBX.out.lt)
   have hys2:=HYS.out.same (hb2.block _ HYS.out.lt)
   have c1:w2.cell? ⟨w.heap.size,1,none⟩ = some (.string it.name):=hbx.cell (j:=1) rfl
   have c2:w2.cell? ⟨w.heap.size,2,none⟩ = some (.int .i64 it.nameAt):=hbx.cell (j:=2) rfl
   have d1:w2.cell? ⟨lg,j * 8 + 1,none⟩ = some (.string yt.name):=hys2.cell (j:=1) rfl
   clear d0 d2 d3 d4 d5 d6 d7 hbx hys2 hb2 hb01 HYS
   cases hnm:(yt.name.toList == it.name.toList) with
   | false =>
    go_wp2_with fail
    go_quiet (fail)
    go_wp2_with fail
    go_roundg (gk - 1)
    case rel=>exact ⟨j + 1,by omega,by go_num,by rw [HD.out,hnm];simp,below_drewN hb02 _⟩
    case measure=>omega
   | true =>
    cases hty:(typeWord it.kind.toList == typeWord yt.kind.toList) with
    | false =>
     go_wp2_with fail
     go_quiet (fail)
     go_wp2_with fail
     go_roundg (gk - 1)
     case rel=>exact ⟨j + 1,by omega,by go_num,by rw [HD.out,hnm,hty];simp,below_drewN hb02 _⟩
     case measure=>omega
    | true =>
     go_wp2_with fail
     go_quiet (fail)
     go_wp2_with fail
     go_roundg (gk - 1)
     case rel=>exact ⟨j + 1,by omega,by go_num,by rw [HD.out,hnm,hty];simp [opt1,leastL,leastI],below_drewN hb02 _⟩
     case measure=>omega
  ·have hji:j = i:=by omega
   subst hji
   have hfl:it.fields.length ≤ 1000:=by have:=univ_fields it.name (List.mem_of_getElem? HI.out);simp only at this;have:=HU.out;omega
   clear c5 c7
   cases hm:(it.kind.toList == [109,101,115,115,97,103,101])
   case' false =>
    have HP:=hid (show leastL (opt1 (dupB X j it) it.nameAt) = leastL (headPl X j it) by simp only [headPl,hm,Bool.false_and,opt1];simp)
    rw [HP.out]
    have hbz:=hbel
    clear HP
    go_wp2_with fail
   case' true =>
    go_wp2_with fail
    refine (holds_any _ _ _ _ _ (HI0.out.same hbel) hX HU.out).mono ?_;rintro e w3 ⟨rfl,hb3⟩
    have hbz:=hbel.trans (hb3.mono hbel.size)
    have c2':w3.cell? ⟨w.heap.size,2,none⟩ = some (.int .i64 it.nameAt):=by rw [hb3.cell (by have:=HBX.out.lt;have:=hbel.size;show w.heap.size < _;omega)];exact c2
    cases hh:outerP X it.name (univ X it.name).length [it.name] 0
    case' false =>
     have HP:=hid (show leastL (opt1 (dupB X j it) it.nameAt) = leastL (headPl X j it) by simp only [headPl,hm,holdsB,hh,Bool.true_and,opt1];simp)
     rw [HP.out]
     clear HP c2' hb3 hh
     go_wp2_with fail
    case' true =>
     go_wp2_with fail
     refine (least_any _ _ _).mono ?_;rintro e w4 ⟨rfl,rfl⟩
     have HP:=hid (show leastI (leastL (opt1 (dupB X j it) it.nameAt)) it.nameAt = leastL (headPl X j it) by simp only [headPl,hm,holdsB,hh,Bool.true_and];rw [least_one];rfl)
     rw [HP.out]
     clear HP c2' hb3 hh
     go_wp2_with fail
   all_goals
    clear c0 c1 c2 c3 c4 c6 hbel hm
    generalize hP:headPl X j it = PH
    have HPH:=hid hP
    clear hP
    go_loopg [6,11,12,13,14] it.fields.length (fun gk p k f jj t wr=>∃ q:Nat,q + gk = it.fields.length ∧ k = .int .i64 q ∧ p = .int .i64 (leastL (PH ++ (List.range q).flatMap (fieldPl X it.fields))) ∧ Below w0.heap.size w0 wr)
    case atStart=>exact ⟨0,by omega,rfl,by simp,hbz⟩
    case round =>
     obtain ⟨q,hq,rfl,rfl,hbel⟩:=hrel
     have hbx:=HBX.out.same (hbel.block _ HBX.out.lt)
     have c3:wr.cell? ⟨w.heap.size,3,none⟩ = some (.slice af it.fields.length cf):=hbx.cell (j:=3) rfl
     have c4:wr.cell? ⟨w.heap.size,4,none⟩ = some (.slice an it.names.length cn):=hbx.cell (j:=4) rfl
     have hwl:w.heap.size < wr.heap.size:=hbx.lt
     clear hbx hbz
     by_cases hql:q < it.fields.length
     ·obtain ⟨f,hf⟩:∃ f,it.fields[q]? = some f:=⟨it.fields[q],List.getElem?_eq_getElem hql⟩
      obtain ⟨fg,fc,hfv,hfl1,hfl2,hfs⟩:=((HI0.out.same hbel).nest _ (List.mem_of_getElem? HI.out)).seg hf
      obtain ⟨rfl,rfl⟩:af = some ⟨fg,0,none⟩ ∧ cf = fc:=by simpa using hfv
      clear hfv
      have HFQ:=hid hf
      have hgq:fg < w0.heap.size:=by
       have:=((HI0.out.nest _ (List.mem_of_getElem? HI.out)).f.lt fg rfl).2;exact this
      obtain ⟨fnum,fname,fkind,fbase,fna,fnma,fba⟩:=f
      have e0:wr.cell? ⟨fg,q * 7,none⟩ = some (.int .i64 fnum):=hfs.cell (j:=0) rfl
      have e1:wr.cell? ⟨fg,q * 7 + 1,none⟩ = some (.string fname):=hfs.cell (j:=1) rfl
      have e2:wr.cell? ⟨fg,q * 7 + 2,none⟩ = some (.string fkind):=hfs.cell (j:=2) rfl
      have e3:wr.cell? ⟨fg,q * 7 + 3,none⟩ = some (.string fbase):=hfs.cell (j:=3) rfl
      have e4:wr.cell? ⟨fg,q * 7 + 4,none⟩ = some (.int .i64 fna):=hfs.cell (j:=4) rfl
      have e5:wr.cell? ⟨fg,q * 7 + 5,none⟩ = some (.int .i64 fnma):=hfs.cell (j:=5) rfl
      have e6:wr.cell? ⟨fg,q * 7 + 6,none⟩ = some (.int .i64 fba):=hfs.cell (j:=6) rfl
      clear hf hfs
      generalize hA:PH ++ (List.range q).flatMap (fieldPl X it.fields) = A
      have HA:=hid hA
      clear hA
      go_wp2_with fail
      have hbf:Below wr.heap.size wr (wr.alloc (.cells #[.int .i64 fnum,.string fname,.string fkind,.string fbase,.int .i64 fna,.int .i64 fnma,.int .i64 fba] 102)):=(Below.refl _ _).alloc (Nat.le_refl _) _
      have hfx:Seg (wr.alloc (.cells #[.int .i64 fnum,.string fname,.string fkind,.string fbase,.int .i64 fna,.int .i64 fnma,.int .i64 fba] 102)) wr.heap.size 102 0 (fieldCells ⟨fnum,fname,fkind,fbase,fna,fnma,fba⟩):=⟨_,heap_alloc_new wr _,by simp [fieldCells],by simp [fieldCells]⟩
      generalize hwf:wr.alloc (.cells #[.int .i64 fnum,.string fname,.string fkind,.string fbase,.int .i64 fna,.int .i64 fnma,.int .i64 fba] 102) = wf at *
      clear hwf e0 e1 e2 e3 e4 e5 e6
      have hb0f:=hbel.trans (hbf.mono hbel.size)
      have c3f:wf.cell? ⟨w.heap.size,3,none⟩ = some (.slice (some ⟨fg,0,none⟩) it.fields.length cf):=by rw [hbf.cell hwl];exact c3
      have f0:wf.cell? ⟨wr.heap.size,0,none⟩ = some (.int .i64 fnum):=hfx.cell (j:=0) rfl
      have f4:wf.cell? ⟨wr.heap.size,4,none⟩ = some (.int .i64 fna):=hfx.cell (j:=4) rfl
      have HFX:=hid hfx
      clear c3 c4 hbf hfx hbel
      have hNF:(q = 0 ∧ numF it.fields q = false) ∨ (∃ q' gnum,q = q' + 1 ∧ wf.cell? ⟨fg,q' * 7,none⟩ = some (.int .i64 gnum) ∧ ((¬ fnum ≤ gnum ∧ numF it.fields q = false) ∨ (fnum ≤ gnum ∧ numF it.fields q = true))):=by
       rcases Nat.eq_zero_or_pos q with h0 | h0
       ·left;exact ⟨h0,by rw [h0];exact numF_zero _⟩
       ·right
        obtain ⟨q',rfl⟩:∃ q',q = q' + 1:=⟨q - 1,by omega⟩
        obtain ⟨gf,hgf⟩:∃ gf,it.fields[q']? = some gf:=⟨it.fields[q']'(by omega),List.getElem?_eq_getElem (by omega)⟩
        obtain ⟨fg',fc',hfv',_,_,hfs'⟩:=((HI0.out.same hb0f).nest _ (List.mem_of_getElem? HI.out)).seg hgf
        obtain ⟨e1,e2⟩:fg = fg' ∧ cf = fc':=by simpa using hfv'
        subst e1
        refine ⟨q',gf.number,rfl,hfs'.cell (j:=0) rfl,?_⟩
        have:numF it.fields (q' + 1) = decide (fnum ≤ gf.number):=numF_succ HFQ.out hgf
        rw [this]
        by_cases hle:fnum ≤ gf.number
        ·right;exact ⟨hle,by simp [hle]⟩
        ·left;exact ⟨hle,by simp [hle]⟩
      have HA1:=hid (least_one A (numF it.fields q) fna)
      rcases hNF with ⟨hq0,hnf⟩ | ⟨q',gnum,hqq,hgc,⟨hle,hnf⟩ | ⟨hle,hnf⟩⟩
      case' inl =>
       have hg0:¬ ((0:Int) < (q:Int)):=by omega
       have hg1:decide ((0:Int) < (q:Int)) = false:=by simp;omega
       have hg2:decide (0 < q) = false:=by simp;omega
       rw [hnf] at HA1
       have HQ1:=hid (show leastL A = leastL (A ++ opt1 (numF it.fields q) fna) by rw [hnf];exact HA1.out.symm)
       rw [HQ1.out]
       clear HA1 HQ1 hnf hq0
       go_quiet (fail)
       go_wp2_with fail
      case' inr.inl =>
       have hg0:(0:Int) < (q:Int):=by omega
       have hg1:0 < q:=by omega
       have hg2:decide (0 < q) = true:=by simp;omega
       have hq1:(q:Int) - 1 = (q':Int):=by omega
       have hq2:(0:Int) ≤ (q':Int):=by omega
       have hq3:(q':Int) < (it.fields.length:Int):=by omega
       have hle':decide (fnum ≤ gnum) = false:=by simpa using hle
       rw [hnf] at HA1
       have HQ1:=hid (show leastL A = leastL (A ++ opt1 (numF it.fields q) fna) by rw [hnf];exact HA1.out.symm)
       rw [HQ1.out]
       have HQQ:=hid hqq
       clear HA1 HQ1 hnf hqq hle
       go_quiet (fail)
       go_wp2_with fail
      case' inr.inr =>
       have hg0:(0:Int) < (q:Int):=by omega
       have hg1:0 < q:=by omega
       have hg2:decide (0 < q) = true:=by simp;omega
       have hq1:(q:Int) - 1 = (q':Int):=by omega
       have hq2:(0:Int) ≤ (q':Int):=by omega
       have hq3:(q':Int) < (it.fields.length:Int):=by omega
       rw [hnf] at HA1
       have HQ1:=hid (show leastI (leastL A) fna = leastL (A ++ opt1 (numF it.fields q) fna) by rw [hnf];exact HA1.out.symm)
       have HQQ:=hid hqq
       clear HA1 hnf hqq
       go_quiet (fail)
       go_wp2_with fail
       refine (least_any _ _ _).mono ?_;rintro e w4 ⟨rfl,rfl⟩
       rw [HQ1.out]
       go_wp2_with fail
      all_goals
       try clear hg0
       try clear hg1
       try clear hg2
       try clear hle
       try clear hle'
       try clear hq1
       try clear hq2
       try clear hq3
       try clear hgc
       clear f0 f4 c3f
       generalize hA1:A ++ opt1 (numF it.fields q) fna = A1
       have HA1:=hid hA1
       clear hA1
       go_loopg [6,13] q (fun gk p jj wr2=>∃ r:Nat,r + gk = q ∧ jj = .int .i64 r ∧ p = .int .i64 (leastL (A1 ++ opt1 (nameF it.fields q r) fnma)) ∧ Below wf.heap.size wf wr2)
       case atStart=>exact ⟨0,by omega,rfl,by simp [nameF,HFQ.out,opt1],below_drewN (Below.refl _ _) _⟩
       case round =>
        rename_i _ wx _
        obtain ⟨r,hr,rfl,rfl,hbr⟩:=hrel
        have hb0r:=hb0f.trans (hbr.mono hb0f.size)
        have hbx:=HBX.out.same (hb0r.block _ HBX.out.lt)
        have hfx:=HFX.out.same (hbr.block _ HFX.out.lt)
        by_cases hrq:r < q
        ·obtain ⟨gf,hgf⟩:∃ gf,it.fields[r]? = some gf:=⟨it.fields[r]'(by omega),List.getElem?_eq_getElem (by omega)⟩
         obtain ⟨fg',fc',hfv',_,_,hfs'⟩:=((HI0.out.same hb0r).nest _ (List.mem_of_getElem? HI.out)).seg hgf
         obtain ⟨e1,e2⟩:fg = fg' ∧ cf = fc':=by simpa using hfv'
         subst e1
         have c3:=hbx.cell (j:=3) (v:=.slice (some ⟨fg,0,none⟩) it.fields.length cf) rfl
         have g1:=hfs'.cell (j:=1) (v:=.string gf.name) rfl
         have f1:=hfx.cell (j:=1) (v:=.string fname) rfl
         have f5:=hfx.cell (j:=5) (v:=.int .i64 fnma) rfl
         simp only [Nat.zero_add] at c3 f1 f5
         have HNF:=hid (nameF_succ HFQ.out hgf)
         have ib1:(0:Int) ≤ (r:Int):=by omega
         have ib2:(r:Int) < (it.fields.length:Int):=by omega
         have HLO:=hid (least_opt A1 (nameF it.fields q r) (gf.name.toList == fname.toList) fnma)
         clear hbx hfx hfs' hgf hfv' e2
         cases hnm:(gf.name.toList == fname.toList)
         case' false =>
          go_wp2_with fail
          go_quiet (fail)
          go_wp2_with fail
          go_roundg (gk - 1)
          case rel=>exact ⟨r + 1,by omega,by go_num,by rw [HNF.out,HLO.out,hnm];rfl,below_drewN hbr _⟩
          case measure=>omega
         case' true =>
          go_wp2_with fail
          go_quiet (fail)
          go_wp2_with fail
          refine (least_any _ _ _).mono ?_;rintro e w4 ⟨rfl,rfl⟩
          go_wp2_with fail
          go_roundg (gk - 1)
          case rel=>exact ⟨r + 1,by omega,by go_num,by rw [HNF.out,HLO.out,hnm];rfl,below_drewN hbr _⟩
          case measure=>omega
        ·have hrq':r = q:=by omega
         subst hrq'
         have f3:=hfx.cell (j:=3) (v:=.string fbase) rfl
         have f6:=hfx.cell (j:=6) (v:=.int .i64 fba) rfl
         simp only [Nat.zero_add] at f3 f6
         have hfxl:=hfx.lt
         clear hbx hfx
         go_wp2_with fail
         refine (isType_any _ _ _ _ _ (HI0.out.same hb0r) hX).mono ?_;rintro e w5 ⟨rfl,hb5⟩
         have hb05:=hb0r.trans (hb5.mono hb0r.size)
         have f6':=later_cell hb5 f6 hfxl
         have HEND:=hid (show PH ++ (List.range (r + 1)).flatMap (fieldPl X it.fields) = A1 ++ opt1 (nameF it.fields r r) fnma ++ opt1 (!typeB X fbase.toList) fba by
          rw [range_snoc,← List.append_assoc,HA.out,← HA1.out];simp only [fieldPl,HFQ.out,List.append_assoc])
         generalize A1 ++ opt1 (nameF it.fields r r) fnma = A2 at *
         have HL2:=hid (least_one A2 (!typeB X fbase.toList) fba)
         clear f3 f6 hb5 hb0r hbr
         cases hty:typeB X fbase.toList
         case' false =>
          go_wp2_with fail
          refine (least_any _ _ _).mono ?_;rintro e w6 ⟨rfl,rfl⟩
          go_wp2_with fail
          go_roundg (it.fields.length - (r + 1))
          case rel=>exact ⟨r + 1,by omega,by go_num,by rw [HEND.out,HL2.out,hty];rfl,hb05⟩
          case measure=>omega
         case' true =>
          go_wp2_with fail
          go_roundg (it.fields.length - (r + 1))
          case rel=>exact ⟨r + 1,by omega,by go_num,by rw [HEND.out,HL2.out,hty];rfl,hb05⟩
          case measure=>omega
     ·have hqe:q = it.fields.length:=by omega
      have HP3:=hid (show PH ++ (List.range q).flatMap (fieldPl X it.fields) = headPl X j it ++ (List.range it.fields.length).flatMap (fieldPl X it.fields) by rw [HPH.out,hqe])
      generalize PH ++ (List.range q).flatMap (fieldPl X it.fields) = P3 at *
      clear HPH hqe
      go_wp2_with fail
      clear c3
      go_loopg [6,15,16] it.names.length (fun gk p k jj wr=>∃ q:Nat,q + gk = it.names.length ∧ k = .int .i64 q ∧ p = .int .i64 (leastL (P3 ++ (List.range q).flatMap (namePl it.names it.namesAt))) ∧ Below w0.heap.size w0 wr)
      case atStart=>exact ⟨0,by omega,rfl,by simp,hbel⟩
      case round =>
       obtain ⟨q,hq,rfl,rfl,hbel⟩:=hrel
       have hbx:=HBX.out.same (hbel.block _ HBX.out.lt)
       have c4:=hbx.cell (j:=4) (v:=.slice an it.names.length cn) rfl
       have c6:=hbx.cell (j:=6) (v:=.slice ab it.bases.length cb) rfl
       simp only [Nat.zero_add] at c4 c6
       clear hbx
       by_cases hql:q < it.names.length
       ·obtain ⟨nq,hnq⟩:∃ nq,it.names[q]? = some nq:=⟨it.names[q],List.getElem?_eq_getElem hql⟩
        obtain ⟨pq,hpq⟩:∃ pq,it.namesAt[q]? = some pq:=⟨it.namesAt[q]'(by have:=HN1.out;omega),List.getElem?_eq_getElem (by have:=HN1.out;omega)⟩
        obtain ⟨ng,nc,hnv,hng,hncell⟩:=str_row (HI0.out.nest _ (List.mem_of_getElem? HI.out)).n (by show 0 < it.names.length;omega)
        obtain ⟨rfl,rfl⟩:an = some ⟨ng,0,none⟩ ∧ cn = nc:=by simpa using hnv
        obtain ⟨pg,pc,hpv,hpg,hpcell⟩:=nat_row (HI0.out.nest _ (List.mem_of_getElem? HI.out)).na (by show 0 < it.namesAt.length;have:=HN1.out;omega)
        obtain ⟨rfl,rfl⟩:aa = some ⟨pg,0,none⟩ ∧ ca = pc:=by simpa using hpv
        have HC:=hid (⟨hncell,hpcell⟩:(∀ k s,it.names[k]? = some s → w0.cell? ⟨ng,k,none⟩ = some (.string s)) ∧ (∀ (k s:Nat),it.namesAt[k]? = some s → w0.cell? ⟨pg,k,none⟩ = some (.int .i64 s)))
        have HQ:=hid (⟨hnq,hpq⟩:it.names[q]? = some nq ∧ it.namesAt[q]? = some pq)
        have HNL:=hid HN1.out
        clear hncell hpcell hnq hpq hnv hpv
        generalize hA:P3 ++ (List.range q).flatMap (namePl it.names it.namesAt) = A
        have HA:=hid hA
        clear hA
        go_wp2_with fail
        clear c4 c6
        go_loopg [6,16] q (fun gk p jj wr2=>∃ r:Nat,r + gk = q ∧ jj = .int .i64 r ∧ p = .int .i64 (leastL (A ++ opt1 (nameN it.names q r) pq)) ∧ Below w0.heap.size w0 wr2)
        case atStart=>exact ⟨0,by omega,rfl,by simp [nameN,HQ.out.1,opt1],hbel⟩
        case round =>
         obtain ⟨r,hr,rfl,rfl,hbr⟩:=hrel
         by_cases hrq:r < q
         ·obtain ⟨gn,hgn⟩:∃ gn,it.names[r]? = some gn:=⟨it.names[r]'(by omega),List.getElem?_eq_getElem (by omega)⟩
          have hbx:=HBX.out.same (hbr.block _ HBX.out.lt)
          have c4:=hbx.cell (j:=4) (v:=.slice (some ⟨ng,0,none⟩) it.names.length cn) rfl
          have c5:=hbx.cell (j:=5) (v:=.slice (some ⟨pg,0,none⟩) it.namesAt.length ca) rfl
          simp only [Nat.zero_add] at c4 c5
          have n1:=(hbr.cell (p:=⟨ng,r,none⟩) hng).trans (HC.out.1 r gn hgn)
          have n2:=(hbr.cell (p:=⟨ng,q,none⟩) hng).trans (HC.out.1 q nq HQ.out.1)
          have n3:=(hbr.cell (p:=⟨pg,q,none⟩) hpg).trans (HC.out.2 q pq HQ.out.2)
          have ib1:(0:Int) ≤ (r:Int):=by omega
          have ib2:(r:Int) < (it.names.length:Int):=by omega
          have ib3:(0:Int) ≤ (q:Int):=by omega
          have ib4:(q:Int) < (it.names.length:Int):=by omega
          have ib5:(q:Int) < (it.namesAt.length:Int):=by have:=HNL.out;omega
          have HNN:=hid (nameN_succ HQ.out.1 hgn)
          have HLO:=hid (least_opt A (nameN it.names q r) (gn.toList == nq.toList) pq)
          clear hbx hgn
          cases hnm:(gn.toList == nq.toList)
          case' false =>
           go_wp2_with fail
           go_quiet (fail)
           go_wp2_with fail
           go_roundg (gk - 1)
           case rel=>exact ⟨r + 1,by omega,by go_num,by rw [HNN.out,HLO.out,hnm];rfl,below_drewN hbr _⟩
           case measure=>omega
          case' true =>
           go_wp2_with fail
           go_quiet (fail)
           go_wp2_with fail
           refine (least_any _ _ _).mono ?_;rintro e w4 ⟨rfl,rfl⟩
           go_wp2_with fail
           go_roundg (gk - 1)
           case rel=>exact ⟨r + 1,by omega,by go_num,by rw [HNN.out,HLO.out,hnm];rfl,below_drewN hbr _⟩
           case measure=>omega
         ·have hrq':r = q:=by omega
          subst hrq'
          have HEND:=hid (show P3 ++ (List.range (r + 1)).flatMap (namePl it.names it.namesAt) = A ++ opt1 (nameN it.names r r) pq by
           rw [range_snoc,← List.append_assoc,HA.out];simp only [namePl,HQ.out.2])
          go_wp2_with fail
          go_roundg (it.names.length - (r + 1))
          case rel=>exact ⟨r + 1,by omega,by go_num,by rw [HEND.out],hbr⟩
          case measure=>omega
       ·have hqe:q = it.names.length:=by omega
        have HP4:=hid (show P3 ++ (List.range q).flatMap (namePl it.names it.namesAt) = headPl X j it ++ (List.range it.fields.length).flatMap (fieldPl X it.fields) ++ (List.range it.names.length).flatMap (namePl it.names it.namesAt) by rw [HP3.out,hqe])
        generalize P3 ++ (List.range q).flatMap (namePl it.names it.namesAt) = P4 at *
        clear HP3 hqe
        go_wp2_with fail
        clear c4 c6
        go_loopg [6,17,18] it.bases.length (fun gk p k jj wr=>∃ q:Nat,q + gk = it.bases.length ∧ k = .int .i64 q ∧ p = .int .i64 (leastL (P4 ++ (List.range q).flatMap (basePl X it.bases it.basesAt))) ∧ Below w0.heap.size w0 wr)
        case atStart=>exact ⟨0,by omega,rfl,by simp,hbel⟩
        case round =>
         obtain ⟨q,hq,rfl,rfl,hbel⟩:=hrel
         have hbx:=HBX.out.same (hbel.block _ HBX.out.lt)
         have c6:=hbx.cell (j:=6) (v:=.slice ab it.bases.length cb) rfl
         simp only [Nat.zero_add] at c6
         clear hbx
         by_cases hql:q < it.bases.length
         ·obtain ⟨nq,hnq⟩:∃ nq,it.bases[q]? = some nq:=⟨it.bases[q],List.getElem?_eq_getElem hql⟩
          obtain ⟨pq,hpq⟩:∃ pq,it.basesAt[q]? = some pq:=⟨it.basesAt[q]'(by have:=HN2.out;omega),List.getElem?_eq_getElem (by have:=HN2.out;omega)⟩
          obtain ⟨ng,nc,hnv,hng,hncell⟩:=str_row (HI0.out.nest _ (List.mem_of_getElem? HI.out)).b (by show 0 < it.bases.length;omega)
          obtain ⟨rfl,rfl⟩:ab = some ⟨ng,0,none⟩ ∧ cb = nc:=by simpa using hnv
          obtain ⟨pg,pc,hpv,hpg,hpcell⟩:=nat_row (HI0.out.nest _ (List.mem_of_getElem? HI.out)).ba (by show 0 < it.basesAt.length;have:=HN2.out;omega)
          obtain ⟨rfl,rfl⟩:az = some ⟨pg,0,none⟩ ∧ cz = pc:=by simpa using hpv
          have n1:=(hbel.cell (p:=⟨ng,q,none⟩) hng).trans (hncell q nq hnq)
          have ib5:(q:Int) < (it.basesAt.length:Int):=by have:=HN2.out;omega
          have HEND:=hid (show P4 ++ (List.range (q + 1)).flatMap (basePl X it.bases it.basesAt) = P4 ++ (List.range q).flatMap (basePl X it.bases it.basesAt) ++ opt1 (!typeB X nq.toList) pq by
           rw [range_snoc,← List.append_assoc];simp only [basePl,hnq,hpq])
          have HC2:=hid (hpcell q pq hpq)
          clear hncell hpcell hnq hpq hnv hpv
          generalize P4 ++ (List.range q).flatMap (basePl X it.bases it.basesAt) = A at *
          have HL2:=hid (least_one A (!typeB X nq.toList) pq)
          go_wp2_with fail
          refine (isType_any _ _ _ _ _ (HI0.out.same hbel) hX).mono ?_;rintro e w5 ⟨rfl,hb5⟩
          have hb05:=hbel.trans (hb5.mono hbel.size)
          have hbx:=HBX.out.same (hb05.block _ HBX.out.lt)
          have c7:=hbx.cell (j:=7) (v:=.slice (some ⟨pg,0,none⟩) it.basesAt.length cz) rfl
          have n3:=(hb05.cell (p:=⟨pg,q,none⟩) hpg).trans HC2.out
          simp only [Nat.zero_add] at c7
          clear hbx c6 n1 hb5
          cases hty:typeB X nq.toList
          case' false =>
           go_wp2_with fail
           refine (least_any _ _ _).mono ?_;rintro e w6 ⟨rfl,rfl⟩
           go_wp2_with fail
           go_roundg (it.bases.length - (q + 1))
           case rel=>exact ⟨q + 1,by omega,by go_num,by rw [HEND.out,HL2.out,hty];rfl,hb05⟩
           case measure=>omega
          case' true =>
           go_wp2_with fail
           go_roundg (it.bases.length - (q + 1))
           case rel=>exact ⟨q + 1,by omega,by go_num,by rw [HEND.out,HL2.out,hty];rfl,hb05⟩
           case measure=>omega
         ·have hqe:q = it.bases.length:=by omega
          have HP5:=hid (show leastL (P4 ++ (List.range q).flatMap (basePl X it.bases it.basesAt)) = R by rw [← HR.out,HP4.out,hqe];rfl)
          rw [HP5.out]
          go_wp2_with fail
          go_ret
          exact ⟨rfl,HB0.out.trans (hbel.mono HB0.out.size)⟩
end Go.Proofs.YtopcgnjocklcoaaGreatDoor

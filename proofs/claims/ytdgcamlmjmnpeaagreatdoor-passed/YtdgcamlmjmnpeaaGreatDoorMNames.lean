/- Package schemas: itemNames. -/
import Derived.Test.YtdgcamlmjmnpeaaGreatDoorMParse
namespace Go.Proofs.YtdgcamlmjmnpeaaGreatDoor
open Go.RowKit
def tyNames (X:List PIV):List PTok:=(X.filter (fun x=>pTypeB x.it.kind)).map (fun x=>x.it.name)
def otNames (X:List PIV):List PTok:=(X.filter (fun x=>!pTypeB x.it.kind)).map (fun x=>x.it.name)
theorem tyNames_snoc (X:List PIV) (x:PIV):tyNames (X ++ [x]) = tyNames X ++ if pTypeB x.it.kind then [x.it.name] else []:=by
 unfold tyNames;rw [List.filter_append];cases h:pTypeB x.it.kind <;> simp [h]
theorem otNames_snoc (X:List PIV) (x:PIV):otNames (X ++ [x]) = otNames X ++ if pTypeB x.it.kind then [] else [x.it.name]:=by
 unfold otNames;rw [List.filter_append];cases h:pTypeB x.it.kind <;> simp [h]
theorem tyNames_len (X:List PIV):(tyNames X).length ≤ X.length:=by unfold tyNames;rw [List.length_map];exact List.length_filter_le _ _
theorem otNames_len (X:List PIV):(otNames X).length ≤ X.length:=by unfold otNames;rw [List.length_map];exact List.length_filter_le _ _
def Apt (u v:Value):Prop:=∀ b,u.ownBlock = some b → v.ownBlock = some b → False
theorem apt_grow {w:World} {lo H:Nat} {e:TypeId} {size m n:Nat} {u v:Value} {ys:List Value} {g cp:Nat} (h:Apt u v) (hv:w.ownsRow lo e size v m ys) (hle:w.heap.size ≤ H) (hg:u.ownBlock = some g ∨ g = H):Apt (.slice (some ⟨g,0,none⟩) n cp) v:=by
 intro b h1 h2
 have hb:g = b:=by simpa [Value.ownBlock] using h1
 subst hb
 rcases hg with hg | hg
 ·exact h _ hg h2
 ·have:=(hv.lt _ h2).2;omega
theorem keep_grow {w w0 w1:World} {lo:Nat} {e:TypeId} {size m:Nat} {u v:Value} {ys:List Value} (h:Apt u v) (hv:w.ownsRow lo e size v m ys) (hb:Below w.heap.size w w0) (hg:w0.grownBy w1 u.ownBlock):w1.ownsRow lo e size v m ys :=
 own_same hv (fun k hk=>by
  have hl:=(hv.lt k hk).2
  rw [hg.block k (Nat.lt_of_lt_of_le hl hb.size) (fun hh=>h k hh.symm hk)]
  exact hb.block k hl)
theorem Apt.symm {u v:Value} (h:Apt u v):Apt v u:=fun b h1 h2=>h b h2 h1
set_option maxRecDepth 100000 in
set_option maxHeartbeats 1000000 in
theorem itemNames_any (w:World) (lo:Nat) (lv:Value) (X:List PIV) (h:PIts w lo lv X) (hn:Nms X) (hX:X.length ≤ 400) :
  Calls Tryz.prog 42 #[lv] w fun e w'=>∃ t o,e = .returned (.tuple #[t,o]) ∧ w'.ownsRow w.heap.size 94 2 t (tyNames X).length ((tyNames X).flatMap nameCells) ∧ w'.ownsRow w.heap.size 94 2 o (otNames X).length ((otNames X).flatMap nameCells) ∧ Below w.heap.size w w':=by
 obtain ⟨iN,hiN,hN0,hN1,hN2⟩:=info_parts Tryz.infoPName
 obtain ⟨la,lc,hlv⟩:∃ a c,lv = .slice a X.length c:=own_slice h.own
 subst hlv
 have H:=hid h
 have HN:=hid hn
 clear h hn
 go_enter Tryz.func42,Tryz.ntmps42
 go_wp2_with fail
 go_loopg [2,3,5,8] X.length (fun gk t o b i wr=>∃ k:Nat,k + gk = X.length ∧ i = .int .i64 k ∧ Hid (wr.ownsRow w.heap.size 94 2 t (tyNames (X.take k)).length ((tyNames (X.take k)).flatMap nameCells)) ∧ Hid (wr.ownsRow w.heap.size 94 2 o (otNames (X.take k)).length ((otNames (X.take k)).flatMap nameCells)) ∧ Hid (Apt t o) ∧ Below w.heap.size w wr)
 case atStart=>exact ⟨0,by omega,rfl,hid (World.ownsRow_nil _ _ _ _),hid (World.ownsRow_nil _ _ _ _),hid (fun b h1 _=>by simp [Value.ownBlock] at h1),Below.refl _ _⟩
 case round =>
  obtain ⟨k,hk,rfl,HT,HR,HA,hbel⟩:=hrel
  have hsz:=hbel.size
  by_cases hlt:k < X.length
  ·obtain ⟨x,hx⟩:∃ x,X[k]? = some x:=⟨X[k],List.getElem?_eq_getElem hlt⟩
   obtain ⟨g,cap,hv,hgl,hgs⟩:=own_form H.out.own (by omega)
   obtain ⟨rfl,rfl⟩:la = some ⟨g,0,none⟩ ∧ lc = cap:=by simpa using hv
   obtain ⟨n,hn⟩:=(H.out.below hbel).itemAt HN.out hx
   have hs:=hn.seg
   have HK:=hid (show X.take (k + 1) = X.take k ++ [x] by rw [List.take_add_one,hx];rfl)
   have hl1:=tyNames_len (X.take k)
   have hl2:=otNames_len (X.take k)
   rw [List.length_take] at hl1 hl2
   clear hx hv hn
   obtain ⟨ta,tc,htv⟩:∃ a c,u2 = .slice a (tyNames (X.take k)).length c:=own_slice HT.out
   obtain ⟨oa,oc,hov⟩:∃ a c,u3 = .slice a (otNames (X.take k)).length c:=own_slice HR.out
   subst htv hov
   have c0:=hs.cell (j:=0) rfl
   have c1:=hs.cell (j:=1) rfl
   have c2:=hs.cell (j:=2) rfl
   have c3:=hs.cell (j:=3) rfl
   have c4:=hs.cell (j:=4) rfl
   have c5:=hs.cell (j:=5) rfl
   have c6:=hs.cell (j:=6) rfl
   have c7:=hs.cell (j:=7) rfl
   have c8:=hs.cell (j:=8) rfl
   simp only [Nat.add_zero] at c0
   clear hs
   go_wp2_with fail
   refine (pIsType_any _ _ _ _ _ _ _ _ _ _).mono ?_;rintro e w2 ⟨rfl,hb2'⟩
   have hb1:Below wr.heap.size wr (wr.alloc (.cells #[.int .i64 x.it.kind,.string x.it.name.text,.int .i64 x.it.name.at_,.slice n.fa x.it.fields.length n.fc,.slice n.na x.it.names.length n.nc,.string n.bb,.int .i64 n.ba,.string n.ab,.int .i64 n.aa] 98)):=(Below.refl _ _).alloc (Nat.le_refl _) _
   have d1:w2.cell? ⟨wr.heap.size,1,none⟩ = some (.string x.it.name.text):=by rw [hb2'.cell (by simp)];simp
   have d2:w2.cell? ⟨wr.heap.size,2,none⟩ = some (.int .i64 x.it.name.at_):=by rw [hb2'.cell (by simp)];simp
   have hbw:=hb1.trans (hb2'.mono hb1.size)
   have hb2:=hbel.trans (hbw.mono hsz)
   have hz2:=hbw.size
   have HT2:=hid (own_same (w':=w2) HT.out (fun g hg=>hbw.block g (HT.out.lt g hg).2))
   have HR2:=hid (own_same (w':=w2) HR.out (fun g hg=>hbw.block g (HR.out.lt g hg).2))
   clear c0 c1 c2 c3 c4 c5 c6 c7 c8 hb2' hb1 HT HR
   cases hty:pTypeB x.it.kind with
   | true =>
    have HE1:=hid (show tyNames (X.take (k + 1)) = tyNames (X.take k) ++ [x.it.name] by rw [HK.out,tyNames_snoc,hty];rfl)
    have HE2:=hid (show otNames (X.take (k + 1)) = otNames (X.take k) by rw [HK.out,otNames_snoc,hty];simp)
    go_wp2_with (at_builtin;refine wpList_append_lies _ rfl _ _ 96 rfl w.heap.size 94 iN _ 2 24 Tryz.underlying96 hiN hN0 hN1 hN2 rfl (by decide) _ _ _ rfl (HT2.out.alloc _) ⟨_,0,none⟩ 1 1 (nameCells x.it.name) rfl rfl (cells_new_at _ _ (by simp) #[.string x.it.name.text,.int .i64 x.it.name.at_] _) (by simp [nameCells,Value.oneCell']) (by omega) (by unfold maxLen;omega) (by omega) (by simp;omega) _ rfl ?_)
    intro g5 cp5 w5 hown5 hgrow5 hgat5 _
    have hb5:=pgrow_below hb2 (by omega) HT2.out (Nat.le_refl _) hgrow5
    have hoth:=keep_grow HA.out HR2.out ((Below.refl _ _).alloc (Nat.le_refl _) _) hgrow5
    have hap:=apt_grow (n:=(tyNames (X.take k)).length + 1) (cp:=cp5) HA.out HR2.out (by omega) hgat5
    clear hgrow5 hgat5
    go_wp2_with fail
    go_roundg (gk - 1)
    case rel=>exact ⟨k + 1,by omega,by go_num,hid (by rw [HE1.out,List.flatMap_append];simpa using hown5),hid (by rw [HE2.out];exact hoth),hid hap,hb5⟩
    case measure=>omega
   | false =>
    have HE1:=hid (show tyNames (X.take (k + 1)) = tyNames (X.take k) by rw [HK.out,tyNames_snoc,hty];simp)
    have HE2:=hid (show otNames (X.take (k + 1)) = otNames (X.take k) ++ [x.it.name] by rw [HK.out,otNames_snoc,hty];rfl)
    go_wp2_with (at_builtin;refine wpList_append_lies _ rfl _ _ 96 rfl w.heap.size 94 iN _ 2 24 Tryz.underlying96 hiN hN0 hN1 hN2 rfl (by decide) _ _ _ rfl (HR2.out.alloc _) ⟨_,0,none⟩ 1 1 (nameCells x.it.name) rfl rfl (cells_new_at _ _ (by simp) #[.string x.it.name.text,.int .i64 x.it.name.at_] _) (by simp [nameCells,Value.oneCell']) (by omega) (by unfold maxLen;omega) (by omega) (by simp;omega) _ rfl ?_)
    intro g5 cp5 w5 hown5 hgrow5 hgat5 _
    have hb5:=pgrow_below hb2 (by omega) HR2.out (Nat.le_refl _) hgrow5
    have hoth:=keep_grow HA.out.symm HT2.out ((Below.refl _ _).alloc (Nat.le_refl _) _) hgrow5
    have hap:=apt_grow (n:=(otNames (X.take k)).length + 1) (cp:=cp5) HA.out.symm HT2.out (by omega) hgat5
    clear hgrow5 hgat5
    go_wp2_with fail
    go_roundg (gk - 1)
    case rel=>exact ⟨k + 1,by omega,by go_num,hid (by rw [HE1.out];exact hoth),hid (by rw [HE2.out,List.flatMap_append];simpa using hown5),hid hap.symm,hb5⟩
    case measure=>omega
  ·have HE:=hid (show X.take k = X from List.take_of_length_le (by omega))
   go_wp2_with fail
   go_ret2
   exact ⟨_,_,rfl,by have:=HT.out;rw [HE.out] at this;exact this,by have:=HR.out;rw [HE.out] at this;exact this,hbel⟩
end Go.Proofs.YtdgcamlmjmnpeaaGreatDoor
namespace Go.Proofs.YtdgcamlmjmnpeaaGreatDoor
open Go.RowKit
def Places (w:World) (lo:Nat) (v:Value) (L:List Nat):Prop:=w.ownsRow lo 3 1 v L.length (L.map natCell)
theorem Places.drewN {w:World} {lo:Nat} {v:Value} {L:List Nat} (h:Places w lo v L) (n:Nat):Places (w.drewN n) lo v L :=
 own_same h (fun g hg=>(below_drewN (Below.refl w.heap.size w) n).block g (h.lt g hg).2)
theorem Places.same {w w':World} {lo:Nat} {v:Value} {L:List Nat} (h:Places w lo v L) (hb:Below w.heap.size w w'):Places w' lo v L :=
 own_same h (fun g hg=>hb.block g (h.lt g hg).2)
def popt (b:Bool) (a:Nat):List Nat:=if b then [a] else []
def sunkB (fs:List PField) (k:Nat):Bool:=match fs[k]?,fs[k - 1]? with | some f,some g=>decide (f.number ≤ g.number) | _,_=>false
def sunkAt (fs:List PField) (k:Nat):List Nat:=match fs[k]? with | some f=>popt (sunkB fs k) f.numberAt | none=>[]
def sunkP (fs:List PField):Nat → List Nat
 | 0=>[]
 | k + 1=>sunkP fs k ++ sunkAt fs (k + 1)
theorem sunkP_len (fs:List PField):∀ k,(sunkP fs k).length ≤ k
 | 0=>by simp [sunkP]
 | k + 1=>by
  have:=sunkP_len fs k
  have h2:(sunkAt fs (k + 1)).length ≤ 1:=by
   unfold sunkAt popt;split
   ·split <;> simp
   ·simp
  simp [sunkP];omega
set_option maxRecDepth 100000 in
set_option maxHeartbeats 1000000 in
theorem sunkNumbers_any (w:World) (lo:Nat) (v:Value) (fs:List PField) (h:w.ownsRow lo 152 7 v fs.length (fs.flatMap pfCells)) (hl:fs.length ≤ 400) :
  Calls Tryz.prog 44 #[v] w fun e w'=>∃ nv,e = .returned nv ∧ Places w' w.heap.size nv (sunkP fs (fs.length - 1)) ∧ Below w.heap.size w w':=by
 obtain ⟨iI,hiI,hI0,hI1,hI2⟩:=info_parts Tryz.infoInt
 obtain ⟨la,lc,hlv⟩:∃ a c,v = .slice a fs.length c:=own_slice h
 subst hlv
 have H:=hid h
 clear h
 go_enter Tryz.func44,Tryz.ntmps44
 go_wp2_with fail
 go_loopg [3,4] fs.length (fun gk nv i wr=>∃ k:Nat,(1 ≤ k ∧ (k ≤ fs.length ∨ k = 1)) ∧ k + gk = fs.length + 1 ∧ i = .int .i64 k ∧ Hid (Places wr w.heap.size nv (sunkP fs (k - 1))) ∧ Below w.heap.size w wr)
 case atStart=>exact ⟨1,by omega,by omega,rfl,hid (World.ownsRow_nil _ _ _ _),Below.refl _ _⟩
 case round =>
  obtain ⟨k,⟨hk1,hk9⟩,hk,rfl,HO,hbel⟩:=hrel
  have hsz:=hbel.size
  have hpl:=sunkP_len fs (k - 1)
  by_cases hlt:k < fs.length
  ·obtain ⟨f,hf⟩:∃ f,fs[k]? = some f:=⟨fs[k],List.getElem?_eq_getElem hlt⟩
   obtain ⟨f0,hf0⟩:∃ f,fs[k - 1]? = some f:=⟨fs[k - 1],List.getElem?_eq_getElem (by omega)⟩
   obtain ⟨na,nc,hnv⟩:∃ a c,u3 = .slice a (sunkP fs (k - 1)).length c:=own_slice HO.out
   subst hnv
   obtain ⟨g,cap,hv,hgl,hgs,hs⟩:=pfield_seg (own_same H.out (fun g hg=>hbel.block g (H.out.lt g hg).2)) hf
   obtain ⟨rfl,rfl⟩:la = some ⟨g,0,none⟩ ∧ lc = cap:=by simpa using hv
   obtain ⟨g',cap',hv',_,_,hs'⟩:=pfield_seg (own_same H.out (fun g hg=>hbel.block g (H.out.lt g hg).2)) hf0
   obtain ⟨rfl,rfl⟩:g = g' ∧ lc = cap':=by simpa using hv'
   have c0:wr.cell? ⟨g,k * 7,none⟩ = some (.int .i64 f.number):=hs.cell (j:=0) rfl
   have c1:wr.cell? ⟨g,k * 7 + 1,none⟩ = some (.int .i64 f.numberAt):=hs.cell (j:=1) rfl
   have d0:wr.cell? ⟨g,(k - 1) * 7,none⟩ = some (.int .i64 f0.number):=hs'.cell (j:=0) rfl
   have HE:=hid (show sunkP fs k = sunkP fs (k - 1) ++ popt (decide (f.number ≤ f0.number)) f.numberAt by
    obtain ⟨q,rfl⟩:∃ q,k = q + 1:=⟨k - 1,by omega⟩
    simp only [Nat.add_sub_cancel] at hf0 ⊢
    simp [sunkP,sunkAt,sunkB,hf,hf0])
   obtain ⟨q,hq⟩:∃ q,k - 1 = q:=⟨_,rfl⟩
   rw [hq] at HO HE d0 hpl ⊢
   have hqq:(k:Int) - 1 = (q:Int):=by omega
   have hq2:(0:Int) ≤ (q:Int):=by omega
   have hq3:(q:Int) < (fs.length:Int):=by omega
   have HQ:=hid hq
   clear hs hs' hv hv' hf hf0 hq
   cases hle:decide (f.number ≤ f0.number) with
   | false =>
    rw [hle] at HE
    have hle':¬ f.number ≤ f0.number:=by simpa using hle
    go_wp2_with fail
    go_quiet (fail)
    go_wp2_with fail
    go_roundg (gk - 1)
    case rel=>exact ⟨k + 1,by omega,by omega,by go_num,hid (by have:=HO.out;rw [show k + 1 - 1 = k by omega,HE.out];simpa [popt] using this.drewN _),below_drewN hbel _⟩
    case measure=>omega
   | true =>
    rw [hle] at HE
    go_wp2_with fail
    go_quiet (fail)
    go_wp2_with (at_builtin;refine wpList_append_lies _ rfl _ _ 32 rfl w.heap.size 3 iI _ 1 8 Tryz.underlying32 hiI hI0 hI1 hI2 rfl (by decide) _ _ _ rfl ((HO.out.drewN _).alloc _) ⟨_,0,none⟩ 1 1 [natCell f.numberAt] rfl rfl (cells_new_at _ _ (by simp) #[.int .i64 f.numberAt] _) (by simp [natCell,Value.oneCell']) (by omega) (by unfold maxLen;omega) (by omega) (by simp;omega) _ rfl ?_)
    intro g5 cp5 w5 hown5 hgrow5 _ _
    have hb5:=pgrow_below (below_drewN hbel _) (by simp;omega) (HO.out.drewN _) (Nat.le_refl _) hgrow5
    clear hgrow5
    go_wp2_with fail
    go_roundg (gk - 1)
    case rel=>exact ⟨k + 1,by omega,by omega,by go_num,hid (by show World.ownsRow _ _ _ _ _ _ _;rw [show k + 1 - 1 = k by omega,HE.out];simpa [popt] using hown5),hb5⟩
    case measure=>omega
  ·have HE:=hid (show k - 1 = fs.length - 1 by omega)
   go_wp2_with fail
   go_ret
   exact ⟨_,rfl,by have:=HO.out;rw [HE.out] at this;exact this,hbel⟩
end Go.Proofs.YtdgcamlmjmnpeaaGreatDoor
namespace Go.Proofs.YtdgcamlmjmnpeaaGreatDoor
open Go.RowKit
theorem nmflat_at (l:List PTok) (k:Nat) (x:PTok) (h:l[k]? = some x):((l.flatMap nameCells).drop (k * 2)).take 2 = nameCells x:=by
 induction l generalizing k with
 | nil=>simp at h
 | cons a r ih =>
  rw [List.flatMap_cons]
  cases k with
  | zero=>simp at h;subst h;simp [nameCells]
  | succ k =>
   simp at h
   rw [List.drop_append,List.drop_eq_nil_of_le (by simp [nameCells];omega),List.nil_append,show (k + 1) * 2 - (nameCells a).length = k * 2 from by simp [nameCells];omega]
   exact ih k h
theorem pname_seg {w:World} {lo:Nat} {v:Value} {fs:List PTok} (h:w.ownsRow lo 94 2 v fs.length (fs.flatMap nameCells)) {j:Nat} {f:PTok} (hj:fs[j]? = some f):∃ g c,v = .slice (some ⟨g,0,none⟩) fs.length c ∧ lo ≤ g ∧ g < w.heap.size ∧ Seg w g 94 (j * 2) (nameCells f):=by
 have hlt:=at_lt hj
 obtain ⟨g,c,hv,hg,hs⟩:=h.form (by omega)
 rw [hv] at h
 have:=(own_seg h).part (j * 2) 2 (nameCells f) (nmflat_at _ j f hj) rfl (by omega)
 exact ⟨g,c,hv,hg,hs,by simpa using this⟩
def hasB (X:List PIV) (name:ByteArray):Bool:=builtB name.toList || decide (0 ≤ pFindI X name.toList)
def unkB (X:List PIV) (t:PTok):Bool:=!hasB X t.text
set_option maxRecDepth 100000 in
set_option maxHeartbeats 1000000 in
theorem hasBase_any (w:World) (lo:Nat) (lv:Value) (X:List PIV) (name:ByteArray) (h:PIts w lo lv X) (hn:Nms X) (hX:X.length ≤ 400) :
  Calls Tryz.prog 21 #[lv,.string name] w fun e w'=>e = .returned (.bool (hasB X name)) ∧ Below w.heap.size w w':=by
 obtain ⟨la,lc,hlv⟩:∃ a c,lv = .slice a X.length c:=own_slice h.own
 subst hlv
 have H:=hid h
 clear h
 have HB:=hid (show hasB X name = (builtB name.toList || decide (0 ≤ pFindI X name.toList)) from rfl)
 generalize hasB X name = r at *
 go_enter Tryz.func21,Tryz.ntmps21
 go_wp2_with fail
 refine (isBuiltin_any _ _).mono ?_;rintro e w2 ⟨rfl,rfl⟩
 cases hbi:builtB name.toList with
 | true =>
  go_wp2_with fail
  go_ret
  exact ⟨ret_bool (by rw [HB.out,hbi];rfl),Below.refl _ _⟩
 | false =>
  go_wp2_with fail
  refine (findType_any _ lo _ X name H.out hn hX).mono ?_;rintro e w3 ⟨rfl,hb3⟩
  generalize pFindI X name.toList = fi at *
  go_wp2_with fail
  go_ret
  exact ⟨ret_bool (by rw [HB.out,hbi];simp),hb3⟩
def unkP (X:List PIV) (ts:List PTok):List Nat:=ts.flatMap (fun t=>popt (unkB X t) t.at_)
theorem popt_len (b:Bool) (a:Nat):(popt b a).length ≤ 1:=by unfold popt;split <;> simp
theorem unkP_len (X:List PIV) (ts:List PTok):(unkP X ts).length ≤ ts.length:=by
 induction ts with
 | nil=>simp [unkP]
 | cons a r ih=>unfold unkP at *;have:=popt_len (unkB X a) a.at_;rw [List.flatMap_cons,List.length_append,List.length_cons];omega
theorem unkP_snoc (X:List PIV) (ts:List PTok) (t:PTok):unkP X (ts ++ [t]) = unkP X ts ++ popt (unkB X t) t.at_:=by simp [unkP]
set_option maxRecDepth 100000 in
set_option maxHeartbeats 1000000 in
theorem unknownBases_any (w:World) (lo:Nat) (lv:Value) (X:List PIV) (p:PItem) (n:Ninth) (h:PIts w lo lv X) (hn:Nms X) (hX:X.length ≤ 400) (hf:w.ownsRow lo 152 7 (.slice n.fa p.fields.length n.fc) p.fields.length (p.fields.flatMap pfCells)) (hl:p.fields.length ≤ 400) :
  Calls Tryz.prog 45 #[lv,.agg #[.int .i64 p.kind,.string p.name.text,.int .i64 p.name.at_,.slice n.fa p.fields.length n.fc,.slice n.na p.names.length n.nc,.string n.bb,.int .i64 n.ba,.string n.ab,.int .i64 n.aa]] w fun e w'=>∃ nv,e = .returned nv ∧ Places w' w.heap.size nv (unkP X (basesP p n)) ∧ Below w.heap.size w w':=by
 obtain ⟨iI,hiI,hI0,hI1,hI2⟩:=info_parts Tryz.infoInt
 obtain ⟨la,lc,hlv⟩:∃ a c,lv = .slice a X.length c:=own_slice h.own
 subst hlv
 have H:=hid h
 have HN:=hid hn
 have HF:=hid hf
 clear h hn hf
 go_enter Tryz.func45,Tryz.ntmps45
 go_wp2_with fail
 refine (bases_any _ lo p n (HF.out.alloc _) hl).mono ?_;rintro e w1 ⟨bv,rfl,hbo,hb1⟩
 have hb0:Below w.heap.size w (w.alloc (.cells #[.int .i64 p.kind,.string p.name.text,.int .i64 p.name.at_,.slice n.fa p.fields.length n.fc,.slice n.na p.names.length n.nc,.string n.bb,.int .i64 n.ba,.string n.ab,.int .i64 n.aa] 98)):=(Below.refl _ _).alloc (Nat.le_refl _) _
 have hb01:=hb0.trans (hb1.mono hb0.size)
 have hz1:=hb01.size
 have hBl:(basesP p n).length ≤ 400:=by
  unfold basesP;split
  ·simp
  ·split <;> simp <;> omega
 generalize hB:basesP p n = B at *
 obtain ⟨ba,bc,hbv⟩:∃ a c,bv = .slice a B.length c:=own_slice hbo
 subst hbv
 have HB:=hid hbo
 have HI1:=hid (H.out.below hb01)
 have HBB:=hid hB
 clear hbo hb1 hb0 hB
 go_wp2_with fail
 go_loopg [5,7,11] B.length (fun gk nv b i wr=>∃ k:Nat,k + gk = B.length ∧ i = .int .i64 k ∧ Hid (Places wr w1.heap.size nv (unkP X (B.take k))) ∧ Below w1.heap.size w1 wr)
 case atStart=>exact ⟨0,by omega,rfl,hid (World.ownsRow_nil _ _ _ _),Below.refl _ _⟩
 case round =>
  obtain ⟨k,hk,rfl,HO,hbel⟩:=hrel
  have hsz:=hbel.size
  have hpl:=unkP_len X (B.take k)
  rw [List.length_take] at hpl
  by_cases hlt:k < B.length
  ·obtain ⟨f,hf⟩:∃ f,B[k]? = some f:=⟨B[k],List.getElem?_eq_getElem hlt⟩
   have HE:=hid (show unkP X (B.take (k + 1)) = unkP X (B.take k) ++ popt (unkB X f) f.at_ by rw [List.take_add_one,hf];exact unkP_snoc X _ f)
   obtain ⟨na,nc,hnv⟩:∃ a c,u5 = .slice a (unkP X (B.take k)).length c:=own_slice HO.out
   subst hnv
   obtain ⟨g,cap,hv,hgl,hgs,hs⟩:=pname_seg (own_same HB.out (fun g hg=>hbel.block g (HB.out.lt g hg).2)) hf
   obtain ⟨rfl,rfl⟩:ba = some ⟨g,0,none⟩ ∧ bc = cap:=by simpa using hv
   have c0:wr.cell? ⟨g,k * 2,none⟩ = some (.string f.text):=hs.cell (j:=0) rfl
   have c1:wr.cell? ⟨g,k * 2 + 1,none⟩ = some (.int .i64 f.at_):=hs.cell (j:=1) rfl
   have hbx:Below wr.heap.size wr (wr.alloc (.cells #[.string f.text,.int .i64 f.at_] 94)):=(Below.refl _ _).alloc (Nat.le_refl _) _
   clear hs hv hf
   go_wp2_with fail
   refine (hasBase_any _ lo _ X f.text (HI1.out.below (hbel.trans (hbx.mono hsz))) HN.out hX).mono ?_;rintro e w3 ⟨rfl,hb3⟩
   have hb13:Below wr.heap.size wr w3:=hbx.trans (hb3.mono hbx.size)
   have hz3:=hb13.size
   have hbe3:=hbel.trans (hb13.mono hsz)
   have HO3:=hid (HO.out.same hb13)
   have d1:w3.cell? ⟨wr.heap.size,1,none⟩ = some (.int .i64 f.at_):=by rw [hb3.cell (by simp)];simp
   cases hfi:hasB X f.text with
   | true =>
    have HU:=hid (show unkB X f = false by simp [unkB,hfi])
    go_wp2_with fail
    go_roundg (gk - 1)
    case rel=>exact ⟨k + 1,by omega,by go_num,hid (by have:=HO3.out;rw [HE.out,HU.out];simpa [popt] using this),hbe3⟩
    case measure=>omega
   | false =>
    have HU:=hid (show unkB X f = true by simp [unkB,hfi])
    go_wp2_with (at_builtin;refine wpList_append_lies _ rfl _ _ 32 rfl w1.heap.size 3 iI _ 1 8 Tryz.underlying32 hiI hI0 hI1 hI2 rfl (by decide) _ _ _ rfl (HO3.out.alloc _) ⟨_,0,none⟩ 1 1 [natCell f.at_] rfl rfl (cells_new_at _ _ (by simp) #[.int .i64 f.at_] _) (by simp [natCell,Value.oneCell']) (by omega) (by unfold maxLen;omega) (by omega) (by simp;omega) _ rfl ?_)
    intro g5 cp5 w5 hown5 hgrow5 _ _
    have hb5:=pgrow_below hbe3 (by omega) HO3.out (Nat.le_refl _) hgrow5
    clear hgrow5
    go_wp2_with fail
    go_roundg (gk - 1)
    case rel=>exact ⟨k + 1,by omega,by go_num,hid (by show World.ownsRow _ _ _ _ _ _ _;rw [HE.out,HU.out];simpa [popt] using hown5),hb5⟩
    case measure=>omega
  ·have HE:=hid (show B.take k = B from List.take_of_length_le (by omega))
   go_wp2_with fail
   go_ret
   exact ⟨_,rfl,by have:=HO.out;rw [HE.out] at this;rw [HBB.out];exact own_base this hz1,hb01.trans (hbel.mono hz1)⟩
end Go.Proofs.YtdgcamlmjmnpeaaGreatDoor

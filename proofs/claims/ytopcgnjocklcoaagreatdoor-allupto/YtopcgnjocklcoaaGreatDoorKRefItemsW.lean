/- items of package courierref: the walk. -/
import Derived.Test.YtopcgnjocklcoaaGreatDoorMRead
import Derived.Test.YtopcgnjocklcoaaGreatDoorMInA
import Derived.Test.YtopcgnjocklcoaaGreatDoorMInB
import Derived.Test.YtopcgnjocklcoaaGreatDoorKRefIn7
import Derived.Test.YtopcgnjocklcoaaGreatDoorKRefIn8
import Derived.Deep.RegionWith
namespace Go.Proofs.YtopcgnjocklcoaaGreatDoor
open Go.RowKit
theorem inItem_any (w:World) (lo b o:Nat) (x:IV) (a:Nat) (t:Tok) (hn:Nest w lo x) (hs:Seg w b 96 o (ivCells x)) (hlo:b < lo) (hsz:lo ≤ w.heap.size) (hfit:Fit x.it a) :
  Calls Tryz.prog 45 #[.pointer (some ⟨b,o,none⟩),.int .i64 a,.agg #[.string t.text,.int .i64 t.at_,.bool t.bad]] w (InPost w lo b o x.it a t):=by
 have h1:=hfit.1
 have h2:=hfit.2.1
 rcases (show a = 1 ∨ a = 2 ∨ a = 3 ∨ a = 4 ∨ a = 5 ∨ a = 6 ∨ a = 7 ∨ a = 8 by omega) with rfl | rfl | rfl | rfl | rfl | rfl | rfl | rfl
 ·exact inItem_1 w lo b o x t hn hs hlo hsz hfit
 ·exact inItem_2 w lo b o x t hn hs hlo hsz hfit
 ·exact inItem_3 w lo b o x t hn hs hlo hsz hfit
 ·exact inItem_4 w lo b o x t hn hs hlo hsz hfit
 ·exact inItem_5 w lo b o x t hn hs hlo hsz hfit
 ·exact inItem_6 w lo b o x t hn hs hlo hsz hfit
 ·exact inItem_7 w lo b o x t hn hs hlo hsz hfit
 ·exact inItem_8 w lo b o x t hn hs hlo hsz hfit
theorem Tryz.infoItem:(Tryz.prog.info? 96).map (fun i=>(i.zero,i.size,i.bytes)) = some (some (.agg #[.string ⟨#[]⟩,.string ⟨#[]⟩,.int .i64 0,.slice none 0 0,.slice none 0 0,.slice none 0 0,.slice none 0 0,.slice none 0 0]),8,160):=by kernel_rfl
structure PInv (Y last:List IV) (a k:Nat):Prop where
 st:(a = 0 ∧ last = []) ∨ (∃ x,last = [x] ∧ LastOk x.it a)
 ok:∀ y ∈ Y ++ last,ItOk y.it k
 sum:((Y ++ last).map (fun y=>y.it.fields.length)).sum + (Y ++ last).length ≤ k
theorem tflat_at (l:List Tok) (k:Nat) (x:Tok) (h:l[k]? = some x):((l.flatMap tokCells).drop (k * 3)).take 3 = tokCells x:=by
 induction l generalizing k with
 | nil=>simp at h
 | cons a r ih =>
  rw [List.flatMap_cons]
  cases k with
  | zero=>simp at h;subst h;simp [tokCells]
  | succ k =>
   simp at h
   rw [List.drop_append,List.drop_eq_nil_of_le (by simp [tokCells];omega),List.nil_append,show (k + 1) * 3 - (tokCells a).length = k * 3 from by simp [tokCells];omega]
   exact ih k h
theorem Tks.seg {w:World} {W0 hi:Nat} {tv:Value} {T:List Tok} (h:Tks w W0 hi tv T) {k:Nat} {t:Tok} (hk:T[k]? = some t):∃ g c,tv = .slice (some ⟨g,0,none⟩) T.length c ∧ g < w.heap.size ∧ Seg w g 92 (k * 3) (tokCells t):=by
 have hlt:k < T.length:=by
  rcases Nat.lt_or_ge k T.length with h | h
  ·exact h
  ·rw [List.getElem?_eq_none h] at hk;cases hk
 obtain ⟨g,c,hv,_,hg⟩:=h.own.form (by omega)
 have ho:=h.own
 rw [hv] at ho
 have:=(own_seg ho).part (k * 3) 3 (tokCells t) (tflat_at _ k t hk) rfl (by omega)
 exact ⟨g,c,hv,hg,by simpa using this⟩
theorem Kept.toBelow {w w':World} {W0 lo b o:Nat} (h:Kept w w' lo b o) (hb:W0 ≤ b) (hl:W0 ≤ lo):Below W0 w w' :=
 ⟨h.os,h.tape,h.output,h.size,fun k hk=>h.block k (by omega) (by omega)⟩
theorem goP_bad {n:Nat} {t:Tok} {r:List Tok} {L:List RItem} {a:Nat} (h:stepP L a t = none):goP n (t :: r) L a = (none,(t.at_:Int)):=by simp only [goP,h]
theorem goP_ok {n:Nat} {t:Tok} {r:List Tok} {L L':List RItem} {a a':Nat} (h:stepP L a t = some (L',a')):goP n (t :: r) L a = goP n r L' a':=by simp only [goP,h]
theorem stepP_item {Y:List IV} {x:IV} {a:Nat} {t:Tok} (hb:t.bad = false) (ha:a ≠ 0):stepP ((Y ++ [x]).map (fun y=>y.it)) a t = if (inItemP x.it a t).2 = 9 then none else some (Y.map (fun y=>y.it) ++ [(inItemP x.it a t).1],(inItemP x.it a t).2):=by
 simp [stepP,hb,ha]
theorem Kept.ofDrew {w w':World} {lo b o:Nat} (h:Kept w.drew w' lo b o):Kept w w' lo b o:=⟨h.os,h.tape,h.output,h.size,h.block,h.seg,h.len⟩
theorem pinv_sum {Y:List IV} {x x':IV} {a k:Nat} (h:PInv Y [x] a k) (hf:x'.it.fields.length ≤ x.it.fields.length + 1):((Y ++ [x']).map (fun y=>y.it.fields.length)).sum + (Y ++ [x']).length ≤ k + 1:=by
 have:=h.sum
 simp at *
 omega
theorem pinv_ok {Y:List IV} {x x':IV} {a k:Nat} (h:PInv Y [x] a k) (ho:ItOk x'.it (k + 1)):∀ y ∈ Y ++ [x'],ItOk y.it (k + 1):=by
 intro y hy
 rcases List.mem_append.1 hy with hy | hy
 ·exact (h.ok y (by simp [hy])).mono (Nat.le_succ _)
 ·simp at hy;subst hy;exact ho
theorem wrap_small (n:Int) (h1:0 ≤ n) (h2:n ≤ 1000000):IntKind.i64.wrap n = n:=by rw [IntKind.wrap_i64];omega
set_option maxRecDepth 100000 in
set_option maxHeartbeats 4000000 in
theorem items_any (s:ByteArray) (w:World) (hs:s.size ≤ 400) :
  Calls Tryz.prog 26 #[.string s] w fun e w'=>∃ lv,e = .returned (.tuple #[lv,.int .i64 (goP s.size (toksOf s) [] 0).2]) ∧ Below w.heap.size w w' ∧
   (((goP s.size (toksOf s) [] 0).1 = none ∧ lv = nilV) ∨ ∃ X,(goP s.size (toksOf s) [] 0).1 = some (X.map (fun y=>y.it)) ∧ Its w' w.heap.size lv X ∧ X.length ≤ 400 ∧ (∀ y ∈ X,ItOk y.it 400) ∧ (X.map (fun y=>y.it.fields.length)).sum ≤ 400):=by
 obtain ⟨iT,hiT,hT0,hT1,hT2⟩:=info_parts Tryz.infoItem
 have hTl:(toksOf s).length ≤ 400:=by have:=toks_length s (s.size + 1) 0;unfold toksOf;omega
 generalize hR:goP s.size (toksOf s) [] 0 = R
 have HR:=hid hR
 clear hR
 generalize hTT:toksOf s = T at *
 have HT:=hid hTT
 clear hTT
 go_enter Tryz.func26,Tryz.ntmps26
 go_wp2_with fail
 refine (tokens_any _ _ hs).mono ?_;rintro e w1 ⟨tv,rfl,htk,hb1⟩
 rw [HT.out] at htk
 obtain ⟨ta,tc,htv⟩:∃ a c,tv = .slice a T.length c:=own_slice htk
 subst htv
 have HTK:=hid (⟨htk,fun g hg=>(htk.lt g hg).2⟩:Tks w1 w.heap.size w1.heap.size (.slice ta T.length tc) T)
 clear htk
 go_wp2_with fail
 go_loopg [4,5,7,8] T.length (fun gk l at_ i t wr=>∃ k Y last a lo,k + gk = T.length ∧ i = .int .i64 (k:Nat) ∧ at_ = .int .i64 (a:Nat) ∧ Hid (Mem wr w.heap.size lo l Y last) ∧ Hid (Tks wr w.heap.size w1.heap.size (.slice ta T.length tc) T) ∧ w1.heap.size ≤ lo ∧ Hid (goP s.size (T.drop k) ((Y ++ last).map (fun y=>y.it)) a = R) ∧ Hid (PInv Y last a k) ∧ Below w.heap.size w wr)
 case atStart =>
  exact ⟨0,[],[],0,w1.heap.size,by omega,rfl,rfl,hid ⟨World.ownsRow_nil _ _ _ _,fun y hy=>(by simp at hy),fun y hy=>(by simp at hy),fun g hg=>(by cases hg),hb1.size,Nat.le_refl _⟩,HTK,Nat.le_refl _,hid HR.out,hid ⟨Or.inl ⟨rfl,rfl⟩,fun y hy=>(by simp at hy),by simp⟩,hb1⟩
 case round =>
  obtain ⟨k,Y,last,a,lo,hk,rfl,rfl,HM,HTk,hlo,HG,HP,hbel⟩:=hrel
  by_cases hlt:k < T.length
  ·obtain ⟨t,ht⟩:∃ t,T[k]? = some t:=⟨T[k],List.getElem?_eq_getElem hlt⟩
   have HD:=hid (show T.drop k = t :: T.drop (k + 1) by
    rw [List.drop_eq_getElem_cons hlt];rw [List.getElem?_eq_getElem hlt] at ht;simp at ht;rw [ht])
   obtain ⟨tg,tc',htv,htg,hts⟩:=HTk.out.seg ht
   obtain ⟨rfl,rfl⟩:ta = some ⟨tg,0,none⟩ ∧ tc = tc':=by simpa using htv
   obtain ⟨tt,tat,tb⟩:=t
   have t0:wr.cell? ⟨tg,k * 3,none⟩ = some (.string tt):=hts.cell (j:=0) rfl
   have t1:wr.cell? ⟨tg,k * 3 + 1,none⟩ = some (.int .i64 tat):=hts.cell (j:=1) rfl
   have t2:wr.cell? ⟨tg,k * 3 + 2,none⟩ = some (.bool tb):=hts.cell (j:=2) rfl
   clear htv hts ht
   have hwr:wr.heap.size < (wr.alloc (.cells #[.string tt,.int .i64 tat,.bool tb] 92)).heap.size:=by simp
   cases tb with
   | true =>
    have HB:=hid (show R = (none,(tat:Int)) by rw [← HG.out,HD.out];exact goP_bad (by simp [stepP]))
    go_wp2_with fail
    go_quiet (fail)
    go_wp2_with fail
    go_ret2
    exact ⟨nilV,by rw [HB.out];rfl,below_drewN (hbel.alloc hbel.size _) _,Or.inl ⟨by rw [HB.out],rfl⟩⟩
   | false =>
    by_cases ha:a = 0
    ·subst ha
     obtain ⟨_,hl⟩:(0:Nat) = 0 ∧ last = []:=by
      rcases HP.out.st with h | ⟨x,_,h⟩
      ·exact h
      ·have:=h.lo;omega
     subst hl
     cases hkw:kindW tt.toList with
     | false =>
      have HB:=hid (show R = (none,(tat:Int)) by rw [← HG.out,HD.out];exact goP_bad (by simp [stepP,hkw]))
      simp only [kindW,wMessage,wEnum,wStream,wCall,Bool.or_eq_false_iff] at hkw
      have k1:(tt.toList == [109,101,115,115,97,103,101]) = false:=hkw.1.1.1
      have k2:(tt.toList == [101,110,117,109]) = false:=hkw.1.1.2
      have k3:(tt.toList == [115,116,114,101,97,109]) = false:=hkw.1.2
      have k4:(tt.toList == [99,97,108,108]) = false:=hkw.2
      clear hkw
      go_wp2_with fail
      go_quiet (fail)
      go_wp2_with fail
      go_ret2
      exact ⟨nilV,by rw [HB.out];rfl,below_drewN (hbel.alloc hbel.size _) _,Or.inl ⟨by rw [HB.out],rfl⟩⟩
     | true =>
      have HS:=hid (show goP s.size (T.drop (k + 1)) ((Y ++ [newIV tt]).map (fun y=>y.it)) 1 = R by
       rw [← HG.out,HD.out];symm;exact goP_ok (by simp [stepP,hkw,newIV]))
      have hYl:Y.length ≤ 400:=by have:=HP.out.sum;simp only [List.append_nil] at this;omega
      have hown:=(HM.out.below ((Below.refl wr.heap.size wr).alloc (Nat.le_refl _) (.cells #[.string tt,.int .i64 tat,.bool false] 92))).own
      rw [List.append_nil] at hown
      have HOW:=hid hown
      clear hown
      have hw4:(tt.toList == [109,101,115,115,97,103,101]) = true ∨ ((tt.toList == [109,101,115,115,97,103,101]) = false ∧ (tt.toList == [101,110,117,109]) = true) ∨ ((tt.toList == [109,101,115,115,97,103,101]) = false ∧ (tt.toList == [101,110,117,109]) = false ∧ (tt.toList == [115,116,114,101,97,109]) = true) ∨ ((tt.toList == [109,101,115,115,97,103,101]) = false ∧ (tt.toList == [101,110,117,109]) = false ∧ (tt.toList == [115,116,114,101,97,109]) = false ∧ (tt.toList == [99,97,108,108]) = true):=by
       simp only [kindW,wMessage,wEnum,wStream,wCall] at hkw
       revert hkw
       cases (tt.toList == [109,101,115,115,97,103,101]) <;> cases (tt.toList == [101,110,117,109]) <;> cases (tt.toList == [115,116,114,101,97,109]) <;> cases (tt.toList == [99,97,108,108]) <;> simp
      clear hkw
      rcases hw4 with k1 | ⟨k1,k2⟩ | ⟨k1,k2,k3⟩ | ⟨k1,k2,k3,k4⟩
      all_goals
       go_wp2_with (at_builtin;refine wpList_append_lies _ rfl _ _ 59 rfl w.heap.size 96 iT _ 8 160 Tryz.underlying59 hiT hT0 hT1 hT2 rfl (by decide) _ _ _ rfl (HOW.out.alloc _) ⟨_,0,none⟩ 1 1 (ivCells (newIV tt)) rfl rfl (cells_new_at _ _ (by simp) #[.string tt,.string ⟨#[]⟩,.int .i64 0,.slice none 0 0,.slice none 0 0,.slice none 0 0,.slice none 0 0,.slice none 0 0] _) (by simp [ivCells,newIV,nilV,newItem,Value.oneCell']) (by omega) (by unfold maxLen;omega) (by omega) (by have:=hbel.size;simp;omega) _ rfl ?_)
       intro g5 cp5 w5 hown5 hgrow5 _ _
       have hm4:=HM.out.below ((Below.refl wr.heap.size wr).alloc (Nat.le_refl _) (.cells #[.string tt,.int .i64 tat,.bool false] 92))
       have ht4:=HTk.out.below ((Below.refl wr.heap.size wr).alloc (Nat.le_refl _) (.cells #[.string tt,.int .i64 tat,.bool false] 92))
       have HM5:=hid (hm4.push hown5 hgrow5)
       have HT5:=hid (ht4.push hm4 hgrow5)
       have hb5:Below w.heap.size w w5:=((hbel.alloc hbel.size _).alloc (by have:=hbel.size;simp;omega) _).grown hgrow5 (by have:=hbel.size;simp;omega) (fun k hk=>(HOW.out.lt k hk).1)
       have hsz5:w1.heap.size ≤ w5.heap.size:=by have:=hgrow5.size;have:=HM.out.sz;simp at *;omega
       have HP5:=hid (show PInv Y [newIV tt] 1 (k + 1) from ⟨Or.inr ⟨_,rfl,⟨by omega,by omega,fun _=>⟨rfl,rfl,rfl,rfl,rfl⟩,fun h=>(by omega),fun h=>(by omega),fun h=>(by omega)⟩⟩,fun y hy=>by
        rcases List.mem_append.1 hy with hy | hy
        ·exact (HP.out.ok y (by simpa using hy)).mono (Nat.le_succ _)
        ·simp at hy;subst hy;exact ⟨rfl,rfl,by simp [newIV,newItem],by simp [newIV,newItem],by simp [newIV,newItem]⟩,by
        have:=HP.out.sum;simp [newIV,newItem] at *;omega⟩)
       clear hown5 hgrow5 hm4 ht4
       go_wp2_with fail
       go_roundg (gk - 1)
       case rel=>exact ⟨k + 1,Y,[newIV tt],1,w5.heap.size,by omega,by go_num,rfl,HM5,HT5,hsz5,HS,HP5,hb5⟩
       case measure=>omega
    ·obtain ⟨x,hx,hlok⟩:∃ x,last = [x] ∧ LastOk x.it a:=by
      rcases HP.out.st with h | h
      ·exact absurd h.1 ha
      ·exact h
     subst hx
     have hz:((a:Int) == 0) = false:=by simp;omega
     obtain ⟨b,c,hlv,hb0,hb1'⟩:=HM.out.own.form (by simp)
     have hlen:(Y ++ [x]).length = Y.length + 1:=by simp
     rw [hlen] at hlv
     subst hlv
     have hYl:Y.length + 1 ≤ 400:=by have:=HP.out.sum;simp at this;omega
     have hm4:=HM.out.below ((Below.refl wr.heap.size wr).alloc (Nat.le_refl _) (.cells #[.string tt,.int .i64 tat,.bool false] 92))
     have ht4:=HTk.out.below ((Below.refl wr.heap.size wr).alloc (Nat.le_refl _) (.cells #[.string tt,.int .i64 tat,.bool false] 92))
     have HM4:=hid hm4
     have HT4:=hid ht4
     have HFIT:=hid (fit_of (HP.out.ok x (by simp)) hlok (show k ≤ 400 by omega))
     have hblo:b < lo:=HM.out.lb b rfl
     have ib1:(0:Int) ≤ (Y.length:Int):=by omega
     have ib2:(Y.length:Int) < (Y.length:Int) + 1:=by omega
     have hwrp:IntKind.i64.wrap (Y.length:Int) = (Y.length:Int):=wrap_small _ (by omega) (by omega)
     have HSO:=hid (step_ok (t:=⟨tt,tat,false⟩) (HP.out.ok x (by simp)) hlok)
     have HLO:=hid hlok
     clear hm4 ht4 hlok
     go_wp2_with fail
     go_region_with (go_at_call 45;refine (inItem_any _ lo b (Y.length * 8) x a ⟨tt,tat,false⟩ (HM4.out.cur x (by simp)).drew HM4.out.seg hblo (Nat.le_trans HM4.out.sz (Nat.le_refl _)) HFIT.out).mono ?_;rintro e w5 ⟨x',rfl,hx',hs5,hn5,hk5,h95⟩)
     all_goals
      by_cases h9:(inItemP x.it a ⟨tt,tat,false⟩).2 = 9
      ·have HB:=hid (show R = (none,(tat:Int)) by rw [← HG.out,HD.out];exact goP_bad (by rw [stepP_item rfl ha,if_pos h9]))
       have hb5:=h95 h9
       have hc5:w5.cell? ⟨wr.heap.size,1,none⟩ = some (.int .i64 tat):=by
        rw [hb5.cell (by show wr.heap.size < (wr.alloc _).heap.size;simp)];show (wr.alloc _).cell? _ = _;simp
       have hbF:Below w.heap.size w w5:=((hbel.alloc hbel.size _).drew).trans (hb5.mono (by have:=hbel.size;show w.heap.size ≤ (wr.alloc _).heap.size;simp;omega))
       rw [h9]
       clear h95 hk5 hn5 hs5 hx'
       go_wp2_with fail
       go_quiet (fail)
       go_wp2_with fail
       go_ret2
       exact ⟨nilV,by rw [HB.out];rfl,below_drewN hbF _,Or.inl ⟨by rw [HB.out],rfl⟩⟩
      ·have h9':(((inItemP x.it a ⟨tt,tat,false⟩).2:Int) == 9) = false:=by simp;omega
       have HS:=hid (show goP s.size (T.drop (k + 1)) ((Y ++ [x']).map (fun y=>y.it)) (inItemP x.it a ⟨tt,tat,false⟩).2 = R by
        rw [← HG.out,HD.out];symm;rw [goP_ok (by rw [stepP_item rfl ha,if_neg h9])];simp [hx'])
       have hm5:=HM4.out.step hs5 hn5 hk5.ofDrew
       have ht5:=Tks.step HT4.out HM4.out.seg hk5.ofDrew hlo
       have hbF:Below w.heap.size w w5:=((hbel.alloc hbel.size _).drew).trans (hk5.toBelow hb0 (by have:=HM.out.w0;omega))
       have hso:=HSO.out
       rw [← hx'] at hso
       have HPN:=hid hso
       generalize (inItemP x.it a ⟨tt,tat,false⟩).2 = a' at *
       have HM5:=hid hm5
       have HT5:=hid ht5
       clear hm5 ht5 hso h95 hk5 hn5 hs5 HSO
       go_wp2_with fail
       rcases HPN.out.2.2 with h | h | h
       ·exact absurd h h9
       ·subst h
        go_roundg (gk - 1)
        case rel=>exact ⟨k + 1,Y ++ [x'],[],0,w5.heap.size,by omega,by go_num,rfl,hid HM5.out.close,HT5,by have:=HM5.out.sz;omega,hid (by have:=HS.out;rw [List.append_nil];exact this),hid ⟨Or.inl ⟨rfl,rfl⟩,by rw [List.append_nil];exact pinv_ok HP.out HPN.out.1,by rw [List.append_nil];exact pinv_sum HP.out HPN.out.2.1⟩,hbF⟩
        case measure=>omega
       ·go_roundg (gk - 1)
        case rel=>exact ⟨k + 1,Y,[x'],a',lo,by omega,by go_num,rfl,HM5,HT5,hlo,HS,hid ⟨Or.inr ⟨x',rfl,h⟩,pinv_ok HP.out HPN.out.1,pinv_sum HP.out HPN.out.2.1⟩,hbF⟩
        case measure=>omega
  ·have HE:=hid (show goP s.size [] ((Y ++ last).map (fun y=>y.it)) a = R by rw [← HG.out,List.drop_eq_nil_of_le (by omega)])
   by_cases ha:a = 0
   ·subst ha
    obtain ⟨_,hl⟩:(0:Nat) = 0 ∧ last = []:=by
     rcases HP.out.st with h | ⟨x,_,h⟩
     ·exact h
     ·have:=h.lo;omega
    subst hl
    have HE2:=hid (show R = (some (Y.map (fun y=>y.it)),-1) by rw [← HE.out];simp [goP])
    go_wp2_with fail
    go_ret2
    refine ⟨u4,by rw [HE2.out];rfl,hbel,Or.inr ⟨Y,by rw [HE2.out],HM.out.its,?_,?_,?_⟩⟩
    ·have:=HP.out.sum;simp at this;omega
    ·intro y hy;exact (HP.out.ok y (by simpa using hy)).mono (by omega)
    ·have:=HP.out.sum;simp at this;omega
   ·have hz:((a:Int) != 0) = true:=by simp;omega
    have HE2:=hid (show R = (none,(s.size:Int)) by rw [← HE.out];simp [goP,ha])
    go_wp2_with fail
    go_ret2
    exact ⟨nilV,by rw [HE2.out];rfl,hbel,Or.inl ⟨by rw [HE2.out],rfl⟩⟩
end Go.Proofs.YtopcgnjocklcoaaGreatDoor

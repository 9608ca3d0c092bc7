/- What Encode and Decode answer at the values of package courierkeep: the facts that Built asks for (no walk). -/
import Derived.Test.YtdgcamlmjmnpeaaGreatDoorMKeepC
import Derived.Test.YtdgcamlmjmnpeaaGreatDoorKKeepChk
import Derived.Test.YtdgcamlmjmnpeaaGreatDoorMKeepV
import Derived.Test.YtdgcamlmjmnpeaaGreatDoorMLawV
import Derived.Test.YtdgcamlmjmnpeaaGreatDoorMKeepP
namespace Go.Proofs.YtdgcamlmjmnpeaaGreatDoor
open Go.RowKit
theorem schemaWK:schemaW = schemaK:=rfl
theorem encHas {w0:World} (hE:Env w0):EncHas w0 (PEncAns schemaK):=fun w base v hb hv=>by
 rw [schemaWK]
 refine (pEncode_any schemaK base v w (by have:=szK;unfold maxLen;omega) (by unfold maxLen;omega) (hE.below hb) (hE.below hb).own).mono ?_
 rintro e w' ⟨a,c,b,E,h1,h2,h3,_,h4⟩
 exact ⟨a,c,b,E,h1,h2,h3,h4⟩
theorem decHas {w0:World} (hE:Env w0):DecHas w0 (PDecAns schemaK):=fun w base dv d hb hd hl=>by
 rw [schemaWK]
 refine (pDecode_any schemaK base dv d w (by have:=szK;unfold maxLen;omega) (hE.below hb) hd (by unfold maxLen;omega)).mono ?_
 rintro e w' h
 exact h
theorem noPint:typeB ivK [112,105,110,116] = false:=by kernel_rfl
theorem isInt:typeB ivK [105,110,116] = true:=by kernel_rfl
theorem isPoint:typeB ivK [112,111,105,110,116] = true:=by kernel_rfl
theorem isColor:typeB ivK [99,111,108,111,114] = true:=by kernel_rfl
theorem isText:typeB ivK [116,101,120,116] = true:=by kernel_rfl
theorem isBool:typeB ivK [98,111,111,108] = true:=by kernel_rfl
theorem okK_parts {base v o:List UInt8} (h:okK base v o = true):∃ p q,whole (encK base v) = some p ∧ whole (encK base o) = some q ∧ p.length ≤ 64 ∧ q.length ≤ 64 ∧ p ≠ q ∧ decK base p = some v ∧ v.length ≤ 390 ∧ o.length ≤ 390 ∧ whole (encK base (v ++ [32])) = none:=by
 unfold okK at h
 cases e1:whole (encK base v) with
 | none=>rw [e1] at h;cases h
 | some p =>
  cases e2:whole (encK base o) with
  | none=>rw [e1,e2] at h;cases h
  | some q =>
   rw [e1,e2] at h
   simp only [Bool.and_eq_true,decide_eq_true_eq,bne_iff_ne,beq_iff_eq,Option.isNone_iff_eq_none] at h
   obtain ⟨⟨⟨⟨⟨⟨h1,h2⟩,h3⟩,h4⟩,h5⟩,h6⟩,h7⟩:=h
   exact ⟨p,q,rfl,rfl,h1,h2,h3,h4,h5,h6,h7⟩
theorem size_of_list {v:ByteArray} {V:List UInt8} (h:v.toList = V):v.size = V.length:=by rw [← h,size_listW]
theorem fact_of {base:ByteArray} {l V O:List UInt8} (hl:base.toList = l) (hb:typeB ivK l = true) (hk:okK l V O = true) (hPt:base = ByteArray.mk #[112,111,105,110,116] → okPt V = true):BFact (PEncAns schemaK) (PDecAns schemaK) base V O:=by
 subst hl
 obtain ⟨p,q,e1,e2,h1,h2,h3,h4,h5,h6,h7⟩:=okK_parts hk
 refine ⟨p,q,h1,h2,h3,?_,?_,?_,?_,?_,?_⟩
 ·intro v E b hv h
  exact encK_ok h hb (by rw [size_of_list hv];omega) (by rw [hv];exact e1) h1
 ·intro v E b hv h
  exact encK_ok h hb (by rw [size_of_list hv];omega) (by rw [hv];exact e2) h2
 ·intro E t h
  exact decK_ok h hb h1 h4 (by omega)
 ·intro v E b hv h
  exact encK_bad h hb (by rw [size_of_list hv,List.length_append];simp;omega) (by rw [hv];exact h7)
 ·intro v E b h
  exact encK_type h (by rw [litB];exact noPint)
 ·intro hpt
  have hp:=hPt hpt
  have hpl:base.toList = wPoint:=by rw [hpt,litB];rfl
  rw [hpl] at e1
  unfold okPt at hp
  rw [e1] at hp
  simp only [Bool.and_eq_true,decide_eq_true_eq,Option.isNone_iff_eq_none] at hp
  obtain ⟨⟨⟨g1,g2⟩,g3⟩,g4⟩:=hp
  exact ⟨g3,fun E t h=>decK_bad h hb (by rw [hpl];exact g1),fun E t h=>decK_bad h hb (by rw [hpl];exact g2)⟩
theorem okAll_parts {n:Nat} (h:okAll n = true):okK wPoint (valPt n) (valPt (n + 1)) = true ∧ okPt (valPt n) = true ∧ okK wInt (valI n) (valI (n + 1)) = true ∧ okK wText (valT n) (valT (n + 1)) = true ∧ okK wColor (valC n) (valC (n + 1)) = true:=by
 unfold okAll at h
 simp only [Bool.and_eq_true] at h
 exact ⟨h.1.1.1.1,h.1.1.1.2,h.1.1.2,h.1.2,h.2⟩
theorem fact_int {k:Nat} (hk:k < 1000):BFact (PEncAns schemaK) (PDecAns schemaK) (ByteArray.mk #[105,110,116]) (valW 0 k) (valW 0 (k + 1)):=fact_of (l:=wInt) (by rw [litB];rfl) isInt (okAll_parts (chk hk)).2.2.1 (fun h=>absurd h (by decide))
theorem fact_point {k:Nat} (hk:k < 1000):BFact (PEncAns schemaK) (PDecAns schemaK) (ByteArray.mk #[112,111,105,110,116]) (valW 1 k) (valW 1 (k + 1)):=fact_of (l:=wPoint) (by rw [litB];rfl) isPoint (okAll_parts (chk hk)).1 (fun _=>(okAll_parts (chk hk)).2.1)
theorem fact_color {k:Nat} (hk:k < 1000):BFact (PEncAns schemaK) (PDecAns schemaK) (ByteArray.mk #[99,111,108,111,114]) (valW 2 k) (valW 2 (k + 1)):=fact_of (l:=wColor) (by rw [litB];rfl) isColor (okAll_parts (chk hk)).2.2.2.2 (fun h=>absurd h (by decide))
theorem fact_text {k:Nat} (hk:k < 1000):BFact (PEncAns schemaK) (PDecAns schemaK) (ByteArray.mk #[116,101,120,116]) (valW 3 k) (valW 3 (k + 1)):=fact_of (l:=wText) (by rw [litB];rfl) isText (okAll_parts (chk hk)).2.2.2.1 (fun h=>absurd h (by decide))
theorem fact_bool:BFact (PEncAns schemaK) (PDecAns schemaK) (ByteArray.mk #[98,111,111,108]) [116,114,117,101] [102,97,108,115,101]:=fact_of (l:=wBool) (by rw [litB];rfl) isBool chkBool (fun h=>absurd h (by decide))
end Go.Proofs.YtdgcamlmjmnpeaaGreatDoor
namespace Go.Proofs.YtdgcamlmjmnpeaaGreatDoor
open Go.RowKit
theorem partB_small (m:Nat) (u:List UInt8) (hm:m < 128) (hu:u.length < 128) (r:List (Nat × List UInt8)):partB ((m,u) :: r) = m.toUInt8 :: u.length.toUInt8 :: (u ++ partB r):=by
 rw [partB_cons,vint_lt hm]
 unfold vsized
 rw [vint_lt hu]
 simp
theorem toU8 {n:Nat} (h:n < 256):n.toUInt8.toNat = n:=by simp [Nat.toUInt8,UInt8.toNat_ofNat'];omega
theorem off_step (ps:List (Nat × List UInt8)) (h:∀ x ∈ ps,x.1 < 128 ∧ x.2.length < 128) (m:Nat) (hm:m < ps.length):(partB (ps.take m)).length + 1 < (partB ps).length ∧ ∃ c:UInt8,(partB ps)[(partB (ps.take m)).length + 1]? = some c ∧ (partB (ps.take (m + 1))).length = (partB (ps.take m)).length + 2 + c.toNat:=by
 have hx:=h ps[m] (List.getElem_mem hm)
 have e1:partB ps = partB (ps.take m) ++ (ps[m].1.toUInt8 :: ps[m].2.length.toUInt8 :: (ps[m].2 ++ partB (ps.drop (m + 1)))):=by
  rw [← partB_small _ _ hx.1 hx.2,← partB_app]
  congr 1
  rw [List.getElem_cons_drop,List.take_append_drop]
 have e2:partB (ps.take (m + 1)) = partB (ps.take m) ++ (ps[m].1.toUInt8 :: ps[m].2.length.toUInt8 :: (ps[m].2 ++ partB [])):=by
  rw [← partB_small _ _ hx.1 hx.2,← partB_app,List.take_succ_eq_append_getElem hm]
 refine ⟨by rw [e1,List.length_append];simp only [List.length_cons];omega,ps[m].2.length.toUInt8,?_,?_⟩
 ·rw [e1,List.getElem?_append_right (by omega)]
  rw [show (partB (ps.take m)).length + 1 - (partB (ps.take m)).length = 1 by omega]
  rfl
 ·rw [e2,toU8 (by omega)]
  simp [partB];omega
def offK (n m:Nat):Nat:=(partB ((psK n).take m)).length
theorem psK_small (n:Nat) (hn:n ≤ 1000):∀ x ∈ psK n,x.1 < 128 ∧ x.2.length < 128:=fun x hx=>by
 have:=(psK_rises n hn).le x hx
 omega
theorem pfact (n:Nat) (hn:n ≤ 1000) (hl:(partB (psK n)).length ≤ 40):PFact (partB (psK n)) (offK n):=by
 refine ⟨rfl,rfl,fun m hm=>off_step (psK n) (psK_small n hn) m hm,hl⟩
theorem take_off (n w:Nat):(partB (psK n)).take (offK n w) = partB ((psK n).take w):=by
 have e:partB (psK n) = partB ((psK n).take w) ++ partB ((psK n).drop w):=by rw [← partB_app,List.take_append_drop]
 unfold offK
 rw [e,List.take_left]
theorem drop_off (n w:Nat):(partB (psK n)).drop (offK n w) = partB ((psK n).drop w):=by
 have e:partB (psK n) = partB ((psK n).take w) ++ partB ((psK n).drop w):=by rw [← partB_app,List.take_append_drop]
 unfold offK
 rw [e,List.drop_left]
theorem ptBytes:(ByteArray.mk #[112,111,105,110,116]).toList = wPoint:=by rw [litB];rfl
theorem pasFact {k:Nat} (hk:k < 100) (u:List UInt8) (w:Nat) (hw:w = 1 ∨ w = 2 ∨ w = 3):PasFact (PEncAns schemaK) (PDecAns schemaK) (valW 1 (2 * k)) u w (freeK w) (partB (psK (2 * k))) (offK (2 * k)):=by
 have hc:=List.all_eq_true.1 chkP k (List.mem_range.2 hk)
 unfold okPass at hc
 simp only [Bool.and_eq_true,beq_iff_eq,decide_eq_true_eq] at hc
 obtain ⟨⟨⟨c1,c2⟩,c3⟩,c4⟩:=hc
 have hb:typeB ivK (ByteArray.mk #[112,111,105,110,116]).toList = true:=by rw [ptBytes];exact isPoint
 have hV:valW 1 (2 * k) = valPt (2 * k):=rfl
 refine ⟨fun v E b hv h=>?_,pfact _ (by omega) c3,fun hu E t h=>?_,fun hu r E t h=>?_⟩
 ·rw [hV] at hv
  exact encK_ok h hb (by rw [size_of_list hv];omega) (by rw [hv,ptBytes];exact c1) (by omega)
 ·rw [take_off,drop_off] at h
  have hp:=pass_ok hk w hw u hu
  have hf:freeK w < 128:=by unfold freeK;split <;> (try split) <;> omega
  rw [vint_lt hf] at hp
  unfold vsized at hp
  rw [vint_lt (by omega)] at hp
  rw [hV]
  have e:partB (List.take (w + 1) (psK (2 * k))) ++ ([(freeK w).toUInt8,u.length.toUInt8] ++ (u ++ partB (List.drop (w + 1) (psK (2 * k))))) = partB ((psK (2 * k)).take (w + 1)) ++ ([(freeK w).toUInt8] ++ ([u.length.toUInt8] ++ u)) ++ partB ((psK (2 * k)).drop (w + 1)):=by simp
  rw [e] at h
  refine decK_ok h hb ?_ (by rw [ptBytes];exact hp) (by omega)
  have hl:(partB (psK (2 * k))).length = (partB ((psK (2 * k)).take (w + 1))).length + (partB ((psK (2 * k)).drop (w + 1))).length:=by rw [← List.length_append,← partB_app,List.take_append_drop]
  simp only [List.length_append,List.length_cons,List.length_nil]
  omega
 ·rw [take_off] at h
  refine decK_bad h hb ?_
  rw [ptBytes]
  have:=pass_bad hk w hw r
  rw [vint_lt (by omega)] at this
  exact this
end Go.Proofs.YtdgcamlmjmnpeaaGreatDoor
namespace Go.Proofs.YtdgcamlmjmnpeaaGreatDoor
open Go.RowKit
theorem Env.tab {w:World} (hE:Env w):Tab w:=⟨hE.t,hE.lt⟩
theorem built_any (n which:Int) (hn:InK64 n) (hwh:InK64 which) (w:World) (hE:Env w):Calls Tryz.prog 3 #[.int .i64 n,.int .i64 which] w (BPost w):=by
 have h5:=pickN_lt which (show 0 < 5 by decide)
 have hk:=pickN_lt n (show 0 < 1000 by decide)
 have h:pickN which 5 = 0 ∨ pickN which 5 = 1 ∨ pickN which 5 = 2 ∨ pickN which 5 = 3 ∨ pickN which 5 = 4:=by omega
 rcases h with h | h | h | h | h
 ·exact built_int n which hn hwh w hE.tab (encHas hE) (decHas hE) h (fact_int hk)
 ·exact built_point n which hn hwh w hE.tab (encHas hE) (decHas hE) h (fact_point hk)
 ·exact built_color n which hn hwh w hE.tab (encHas hE) (decHas hE) h (fact_color hk)
 ·exact built_text n which hn hwh w hE.tab (encHas hE) (decHas hE) h (fact_text hk)
 ·exact built_bool n which hn hwh w (encHas hE) (decHas hE) h fact_bool
theorem passed_any (n at_:Int) (hn:InK64 n) (hat:InK64 at_) (w:World) (ba:Option Addr) (bc:Nat) (u:List UInt8) (hu:Rd w (.slice ba u.length bc) u) (hul:u.length ≤ maxLen) (hE:Env w):Calls Tryz.prog 4 #[.int .i64 n,.int .i64 at_,.slice ba u.length bc] w (BPost w):=by
 have h3:=pickN_lt at_ (show 0 < 3 by decide)
 have hk:=pickN_lt n (show 0 < 100 by decide)
 have h:pickN at_ 3 = 0 ∨ pickN at_ 3 = 1 ∨ pickN at_ 3 = 2:=by omega
 rcases h with h | h | h
 ·exact passed_1 n at_ hn hat w ba bc u hu hul hE.tab (encHas hE) (decHas hE) h _ _ (pasFact hk u 1 (Or.inl rfl))
 ·exact passed_2 n at_ hn hat w ba bc u hu hul hE.tab (encHas hE) (decHas hE) h _ _ (pasFact hk u 2 (Or.inr (Or.inl rfl)))
 ·exact passed_3 n at_ hn hat w ba bc u hu hul hE.tab (encHas hE) (decHas hE) h _ _ (pasFact hk u 3 (Or.inr (Or.inr rfl)))
end Go.Proofs.YtdgcamlmjmnpeaaGreatDoor

/- The parser of package schemas: the fields between braces. -/
import Derived.Test.YtlgjlfobbpgklaaGreatDoorGField
import Derived.Deep.RegionLaw
import Derived.Deep.AppendLies
namespace Go.Proofs.YtlgjlfobbpgklaaGreatDoor
open Go.RowKit

theorem Tryz.infoPField : (Tryz.prog.info? 291).map (fun i => (i.zero, i.size, i.bytes)) = some (some (.agg #[.int .i64 0, .int .i64 0, .string ⟨#[]⟩, .int .i64 0, .int .i64 0, .string ⟨#[]⟩, .int .i64 0]), 7, 72) := by kernel_rfl

theorem Ps.belowAt {w w' : World} {pb B : Nat} {s : ByteArray} {t : PTok} (h : Ps w pb s t) (hb : Below B w w') (h0 : pb < B) (h1 : 0 < B) (h2 : 1 < B) : Ps w' pb s t := by
  obtain ⟨te, pe, e1⟩ := h.vars.sx
  obtain ⟨tf, pf, e2⟩ := h.vars.rg
  exact ⟨h.seg.same (hb.block pb h0), ⟨⟨te, pe, by rw [hb.cell h1]; exact e1⟩, ⟨tf, pf, by rw [hb.cell h2]; exact e2⟩, Nat.lt_of_lt_of_le h.vars.lt1 hb.size, Nat.lt_of_lt_of_le h.vars.lt2 hb.size⟩, h.ne1, h.ne2, h.fit, h.sz⟩
theorem Wrote.thenBelow {w w' w'' : World} {pb nb no n : Nat} (h : Wrote w w' pb nb no n) (hb : Below w.heap.size w' w'') (hl : nb < w.heap.size) : Wrote w w'' pb nb no n :=
  ⟨hb.os.trans h.os, hb.tape.trans h.tape, hb.output.trans h.output, Nat.le_trans h.size hb.size, fun k hk hp hn => (hb.block k hk).trans (h.block k hk hp hn), fun T p xs hp hs => (h.seg T p xs hp hs).same (hb.block nb hl), fun T cur hc => by
    obtain ⟨c', h1, h2⟩ := h.len T cur hc
    exact ⟨c', by rw [hb.block nb hl]; exact h1, h2⟩⟩
/-- a reader that wrote into a box of the call's own -/
theorem Wrote.box {w w' w'' : World} {pb nb no n fb fo m : Nat} (h : Wrote w w' pb nb no n) (k : Wrote w' w'' pb fb fo m) (hf : w.heap.size ≤ fb) (hl : nb < w.heap.size) (hne : nb ≠ pb) : Wrote w w'' pb nb no n :=
  have hsame : w''.heap[nb]? = w'.heap[nb]? := k.block nb (Nat.lt_of_lt_of_le hl h.size) hne (by omega)
  ⟨k.os.trans h.os, k.tape.trans h.tape, k.output.trans h.output, Nat.le_trans h.size k.size, fun i hi hp hn => (k.block i (Nat.lt_of_lt_of_le hi h.size) hp (by omega)).trans (h.block i hi hp hn), fun T p xs hp hs => (h.seg T p xs hp hs).same hsame, fun T cur hc => by
    obtain ⟨c', h1, h2⟩ := h.len T cur hc
    exact ⟨c', by rw [hsame]; exact h1, h2⟩⟩

set_option maxRecDepth 100000 in
set_option maxHeartbeats 4000000 in
theorem blockF_any (w : World) (pb : Nat) (s : ByteArray) (t : PTok) (ib io : Nat) (T : TypeId) (h : Ps w pb s t) (ht : Tk s t) (hl : Seg w ib T io [.slice none 0 0]) (hne : ib ≠ pb) (h1 : ib ≠ 0) (h2 : ib ≠ 1) :
    Calls Tryz.prog 191 #[.pointer (some ⟨pb, 0, none⟩), .pointer (some ⟨ib, io, none⟩), .func (Fn.func 192) #[.pointer (some ⟨pb, 0, none⟩)] #[]] w fun e w' => ∃ v, e = .returned (.bool (blockF s t).1) ∧ Ps w' pb s (blockF s t).2.1 ∧ Seg w' ib T io [v] ∧ w'.ownsRow w.heap.size 291 7 v (blockF s t).2.2.length ((blockF s t).2.2.flatMap pfCells) ∧ ((blockF s t).2.2 = [] → v = .slice none 0 0) ∧ Wrote w w' pb ib io 1 := by
  obtain ⟨iF, hiF, hF0, hF1, hF2⟩ := info_parts Tryz.infoPField
  have hpl := h.seg.lt
  have hil := hl.lt
  have hv1 := h.vars.lt1
  have hv2 := h.vars.lt2
  have hsz := h.sz
  generalize hR : blockF s t = R
  have HR := hid hR
  have H := hid h
  have HT := hid ht
  have HL := hid hl
  clear h ht hl hR
  go_enter Tryz.func191, Tryz.ntmps191
  go_wp2_with fail
  refine (mark_any _ pb s t 4 H.out).mono ?_; rintro e w1 ⟨rfl, hp1, hb1⟩
  cases hk : (t.kind == 4)
  case' false =>
    have HX := hid (show R = (false, t, []) by rw [← HR.out]; simp [blockF, hk])
    rw [hk] at hp1
    go_wp2_with fail
    go_ret
    exact ⟨.slice none 0 0, by rw [HX.out]; rfl, by rw [HX.out]; exact hp1, HL.out.same (hb1.block ib hil hne), by rw [HX.out]; exact World.ownsRow_nil _ _ _ _, fun _ => rfl, Wrote.ofBut hb1 hil hne⟩
  case' true =>
    have HX := hid (show fieldsT s (s.size + 1) (nextP s t) [] = R by rw [← HR.out]; simp [blockF, hk])
    rw [hk] at hp1
    have HP1 := hid hp1
    have HW1 := hid (Wrote.ofBut (no := io) (n := 1) hb1 hil hne)
    have HL1 := hid (HL.out.same (hb1.block ib hil hne))
    clear hp1 hb1
    go_wp2_with fail
    go_loopg [7] (s.size + 1) (fun gk one wr => ∃ t1 L v, s.size < t1.at_ + gk ∧ L.length ≤ t1.at_ ∧ Hid (fieldsT s gk t1 L = R) ∧ Hid (Ps wr pb s t1) ∧ Hid (Tk s t1) ∧ Hid (Seg wr ib T io [v]) ∧ Hid (wr.ownsRow w.heap.size 291 7 v L.length (L.flatMap pfCells)) ∧ Hid (L = [] → v = .slice none 0 0) ∧ Hid (Wrote w wr pb ib io 1))
    case atStart => exact ⟨nextP s t, [], .slice none 0 0, by omega, by simp, HX, HP1, hid HT.out.next, HL1, hid (World.ownsRow_nil _ _ _ _), hid (fun _ => rfl), HW1⟩
    case round =>
      obtain ⟨t1, L, v, hgk, hLl, HFS, HP, HTK, HLC, HOW, HNL, HWR⟩ := hrel
      obtain ⟨va, vc, hvv⟩ : ∃ a c, v = .slice a L.length c := own_slice HOW.out
      subst hvv
      have hfit := HTK.out.fit
      obtain ⟨gk', rfl⟩ : ∃ gk', gk = gk' + 1 := ⟨gk - 1, by omega⟩
      have hws := HWR.out.size
      go_wp2_with fail
      have hbox : Seg (wr.alloc (.cells #[.int .i64 0, .int .i64 0, .string ⟨#[]⟩, .int .i64 0, .int .i64 0, .string ⟨#[]⟩, .int .i64 0] 291)) wr.heap.size 291 0 [.int .i64 0, .int .i64 0, .string ⟨#[]⟩, .int .i64 0, .int .i64 0, .string ⟨#[]⟩, .int .i64 0] := ⟨_, heap_alloc_new wr _, by simp, by simp⟩
      have hb0 : Below wr.heap.size wr (wr.alloc (.cells #[.int .i64 0, .int .i64 0, .string ⟨#[]⟩, .int .i64 0, .int .i64 0, .string ⟨#[]⟩, .int .i64 0] 291)) := (Below.refl _ _).alloc (Nat.le_refl _) _
      refine (field_any _ pb s t1 wr.heap.size 291 _ _ _ _ _ _ _ (HP.out.below hb0) hbox (by omega) (by omega) (by omega)).mono ?_; rintro e w2 ⟨rfl, hp2, hw2, hfd⟩
      have hfl : wr.heap.size < w2.heap.size := Nat.lt_of_lt_of_le (by simp) hw2.size
      have hib2 : w2.heap[ib]? = wr.heap[ib]? := (hw2.block ib (by simp; omega) hne (by omega)).trans (hb0.block ib (by omega))
      have hlc2 := HLC.out.same hib2
      have how2 := own_same (w' := w2) HOW.out (fun g hg => by
        have hlt := HOW.out.lt g hg
        exact (hw2.block g (by simp; omega) (by omega) (by omega)).trans (hb0.block g hlt.2))
      have hwr2 : Wrote w w2 pb ib io 1 := (HWR.out.thenBelow (hb0.mono hws) hil).box hw2 hws hil hne
      have HP2 := hid hp2
      have HLC2 := hid hlc2
      have HOW2 := hid how2
      have HWR2 := hid hwr2
      have HFD := hid hfd
      clear hp2 hw2 hfd hib2 hlc2 how2 hwr2 hbox hb0 HP HLC HOW HWR
      cases hf : (fieldT s t1).1
      case' false =>
        have HY := hid (show R = (false, (fieldT s t1).2, L) by rw [← HFS.out]; simp [fieldsT, hf])
        go_wp2_with fail
        go_ret
        exact ⟨_, by rw [HY.out]; rfl, by rw [HY.out]; exact HP2.out, HLC2.out, by rw [HY.out]; exact HOW2.out, by rw [HY.out]; exact HNL.out, HWR2.out⟩
      case' true =>
        obtain ⟨n, hn, hseg⟩ := HFD.out hf
        have hat := fieldT_at HTK.out hf
        rw [hn (HTK.out.num hat.2)] at hseg
        have e0 := hseg.cell (j := 0) (v := .int .i64 (fieldV s t1 (numI t1.text.toList)).number) rfl
        have e1 := hseg.cell (j := 1) (v := .int .i64 (fieldV s t1 (numI t1.text.toList)).numberAt) rfl
        have e2 := hseg.cell (j := 2) (v := .string (fieldV s t1 (numI t1.text.toList)).name) rfl
        have e3 := hseg.cell (j := 3) (v := .int .i64 (fieldV s t1 (numI t1.text.toList)).nameAt) rfl
        have e4 := hseg.cell (j := 4) (v := .int .i64 (fieldV s t1 (numI t1.text.toList)).shape) rfl
        have e5 := hseg.cell (j := 5) (v := .string (fieldV s t1 (numI t1.text.toList)).base) rfl
        have e6 := hseg.cell (j := 6) (v := .int .i64 (fieldV s t1 (numI t1.text.toList)).baseAt) rfl
        have c0 := HLC2.out.cell (j := 0) (v := .slice va L.length vc) rfl
        simp only [Nat.zero_add, Nat.add_zero] at e0 e1 e2 e3 e4 e5 e6 c0
        have c0a := alloc_cell c0 (show ib < w2.heap.size by omega)
        have HAT := hid hat
        have HFV := hid (show fieldsT s (gk' + 1) t1 L = R from HFS.out)
        generalize hfv : fieldV s t1 (numI t1.text.toList) = fv at *
        have HFW := hid hfv
        clear hn hseg hfv HFS HFD
        go_wp2_with fail
        go_region_law (refine step_append_lies _ rfl (.tmp 17) (.tmp 19) 194 rfl w.heap.size 291 iF _ 7 72 Tryz.underlying194 hiF hF0 hF1 hF2 rfl (by decide) _ _ _ (by simp [Act.eval]) (HOW2.out.alloc _) ⟨w2.heap.size, 0, none⟩ 1 1 (pfCells fv) (by simp [Act.eval]) rfl (cells_new w2 #[.int .i64 fv.number, .int .i64 fv.numberAt, .string fv.name, .int .i64 fv.nameAt, .int .i64 fv.shape, .string fv.base, .int .i64 fv.baseAt] _) (by simp [pfCells, Value.oneCell']) (by omega) (by unfold maxLen; omega) (by omega) (by simp; omega) _ rfl ?_; intro g cp w3 hown' hgrow hgat hglt; have hb3 : Below w.heap.size w2 w3 := ((Below.refl w.heap.size w2).alloc (by omega) _).drew.grown hgrow (by show w.heap.size ≤ (w2.alloc _).heap.size; simp; omega) (fun k hk => (HOW2.out.lt k hk).1); have hlc3 := HLC2.out.same (hb3.block ib hil); have c03 := hlc3.cell (j := 0) (v := .slice va L.length vc) rfl; have cf3 : ∀ j, w3.frozen? ⟨ib, j, none⟩ = false := fun j => hlc3.frozen j; simp only [Nat.add_zero] at c03; have HLC3 := hid hlc3; have HB3 := hid hb3; have HO3 := hid hown'; clear hlc3 hb3 hown' hgrow hgat)
        all_goals
          go_wp2_with fail
          have hp4 := (HP2.out.belowAt HB3.out hpl hv1 hv2).store hne h1 h2 io (.slice (some ⟨g, 0, none⟩) (L.length + 1) cp)
          have ho4 := ownsRow_setCell_below (a := ⟨ib, io, none⟩) HO3.out hil (.slice (some ⟨g, 0, none⟩) (L.length + 1) cp)
          have hs4 := HLC3.out.set 0 (.slice (some ⟨g, 0, none⟩) (L.length + 1) cp)
          have hw4 := (HWR2.out.thenBelow HB3.out hil).setCell 0 (by omega) (.slice (some ⟨g, 0, none⟩) (L.length + 1) cp)
          simp only [Nat.add_zero] at hs4 hw4
          have hw4s := hw4.size
          refine (mark_any _ pb s (fieldT s t1).2 5 hp4).mono ?_; rintro e w5 ⟨rfl, hp5, hb5⟩
          have HP5 := hid hp5
          have HS5 := hid (hs4.same (hb5.block ib (by omega) hne))
          have HW5 := hid (hw4.but hb5 hil hne)
          have HO5 := hid (show w5.ownsRow w.heap.size 291 7 (.slice (some ⟨g, 0, none⟩) (L.length + 1) cp) (L ++ [fv]).length ((L ++ [fv]).flatMap pfCells) by
            have := own_same (w' := w5) ho4 (fun gg hgg => hb5.block gg (ho4.lt gg hgg).2 (by have := (ho4.lt gg hgg).1; omega))
            simpa using this)
          clear hp4 ho4 hs4 hw4 hp5 hb5 e0 e1 e2 e3 e4 e5 e6 c0 c0a c03 cf3
          cases hk5 : ((fieldT s t1).2.kind == 5)
          case' true =>
            have HZ := hid (show R = (true, nextP s (fieldT s t1).2, L ++ [fv]) by rw [← HFV.out]; simp only [fieldsT, hf, hk5, if_true, HFW.out])
            rw [hk5] at HP5
            go_wp2_with fail
            go_ret
            exact ⟨_, by rw [HZ.out]; rfl, by rw [HZ.out]; exact HP5.out, HS5.out, by rw [HZ.out]; exact HO5.out, fun hh => (by rw [HZ.out] at hh; simp at hh), HW5.out⟩
          case' false =>
            have HZ := hid (show fieldsT s gk' (fieldT s t1).2 (L ++ [fv]) = R by rw [← HFV.out]; simp only [fieldsT, hf, hk5, if_true, HFW.out]; rw [if_neg (by decide)])
            rw [hk5] at HP5
            have hat2 := HAT.out.1
            have HT2 := hid (fieldT_tk HTK.out)
            go_wp2_with fail
            go_roundg gk'
            case rel => exact ⟨(fieldT s t1).2, L ++ [fv], _, by omega, by simp; omega, HZ, HP5, HT2, HS5, HO5, hid (fun hh => by simp at hh), HW5⟩
            case measure => omega
end Go.Proofs.YtlgjlfobbpgklaaGreatDoor
/- The parser of package schemas: the NAMEs between braces. -/
namespace Go.Proofs.YtlgjlfobbpgklaaGreatDoor
open Go.RowKit

theorem Tryz.infoPName : (Tryz.prog.info? 193).map (fun i => (i.zero, i.size, i.bytes)) = some (some (.agg #[.string ⟨#[]⟩, .int .i64 0]), 2, 24) := by kernel_rfl
/-- the NAMEs between braces (each as its token): whether they are some, the token behind them or at fault -/
def namesT (s : ByteArray) : Nat → PTok → List PTok → Bool × PTok × List PTok
  | 0, t, L => (false, t, L)
  | f + 1, t, L =>
    if nameOk t = true then
      if ((nextP s t).kind == 5) = true then (true, nextP s (nextP s t), L ++ [t])
      else namesT s f (nextP s t) (L ++ [t])
    else (false, t, L)
def blockN (s : ByteArray) (t : PTok) : Bool × PTok × List PTok := if (t.kind == 4) = true then namesT s (s.size + 1) (nextP s t) [] else (false, t, [])

set_option maxRecDepth 100000 in
set_option maxHeartbeats 4000000 in
theorem blockN_any (w : World) (pb : Nat) (s : ByteArray) (t : PTok) (ib io : Nat) (T : TypeId) (h : Ps w pb s t) (ht : Tk s t) (hl : Seg w ib T io [.slice none 0 0]) (hne : ib ≠ pb) (h1 : ib ≠ 0) (h2 : ib ≠ 1) :
    Calls Tryz.prog 193 #[.pointer (some ⟨pb, 0, none⟩), .pointer (some ⟨ib, io, none⟩), .func (Fn.func 190) #[.pointer (some ⟨pb, 0, none⟩)] #[]] w fun e w' => ∃ v, e = .returned (.bool (blockN s t).1) ∧ Ps w' pb s (blockN s t).2.1 ∧ Seg w' ib T io [v] ∧ w'.ownsRow w.heap.size 193 2 v (blockN s t).2.2.length ((blockN s t).2.2.flatMap nameCells) ∧ ((blockN s t).2.2 = [] → v = .slice none 0 0) ∧ Wrote w w' pb ib io 1 := by
  obtain ⟨iF, hiF, hF0, hF1, hF2⟩ := info_parts Tryz.infoPName
  have hpl := h.seg.lt
  have hil := hl.lt
  have hv1 := h.vars.lt1
  have hv2 := h.vars.lt2
  have hsz := h.sz
  generalize hR : blockN s t = R
  have HR := hid hR
  have H := hid h
  have HT := hid ht
  have HL := hid hl
  clear h ht hl hR
  go_enter Tryz.func193, Tryz.ntmps193
  go_wp2_with fail
  refine (mark_any _ pb s t 4 H.out).mono ?_; rintro e w1 ⟨rfl, hp1, hb1⟩
  cases hk : (t.kind == 4)
  case' false =>
    have HX := hid (show R = (false, t, []) by rw [← HR.out]; simp [blockN, hk])
    rw [hk] at hp1
    go_wp2_with fail
    go_ret
    exact ⟨.slice none 0 0, by rw [HX.out]; rfl, by rw [HX.out]; exact hp1, HL.out.same (hb1.block ib hil hne), by rw [HX.out]; exact World.ownsRow_nil _ _ _ _, fun _ => rfl, Wrote.ofBut hb1 hil hne⟩
  case' true =>
    have HX := hid (show namesT s (s.size + 1) (nextP s t) [] = R by rw [← HR.out]; simp [blockN, hk])
    rw [hk] at hp1
    have HP1 := hid hp1
    have HW1 := hid (Wrote.ofBut (no := io) (n := 1) hb1 hil hne)
    have HL1 := hid (HL.out.same (hb1.block ib hil hne))
    clear hp1 hb1
    go_wp2_with fail
    go_loopg [7] (s.size + 1) (fun gk one wr => ∃ t1 L v, s.size < t1.at_ + gk ∧ L.length ≤ t1.at_ ∧ Hid (namesT s gk t1 L = R) ∧ Hid (Ps wr pb s t1) ∧ Hid (Tk s t1) ∧ Hid (Seg wr ib T io [v]) ∧ Hid (wr.ownsRow w.heap.size 193 2 v L.length (L.flatMap nameCells)) ∧ Hid (L = [] → v = .slice none 0 0) ∧ Hid (Wrote w wr pb ib io 1))
    case atStart => exact ⟨nextP s t, [], .slice none 0 0, by omega, by simp, HX, HP1, hid HT.out.next, HL1, hid (World.ownsRow_nil _ _ _ _), hid (fun _ => rfl), HW1⟩
    case round =>
      obtain ⟨t1, L, v, hgk, hLl, HFS, HP, HTK, HLC, HOW, HNL, HWR⟩ := hrel
      obtain ⟨va, vc, hvv⟩ : ∃ a c, v = .slice a L.length c := own_slice HOW.out
      subst hvv
      have hfit := HTK.out.fit
      obtain ⟨gk', rfl⟩ : ∃ gk', gk = gk' + 1 := ⟨gk - 1, by omega⟩
      have hws := HWR.out.size
      go_wp2_with fail
      have hbox : Seg (wr.alloc (.cells #[.string ⟨#[]⟩, .int .i64 0] 193)) wr.heap.size 193 0 [.string ⟨#[]⟩, .int .i64 0] := ⟨_, heap_alloc_new wr _, by simp, by simp⟩
      have hb0 : Below wr.heap.size wr (wr.alloc (.cells #[.string ⟨#[]⟩, .int .i64 0] 193)) := (Below.refl _ _).alloc (Nat.le_refl _) _
      refine (name_any _ pb s t1 wr.heap.size 0 193 _ _ (HP.out.below hb0) hbox (by omega) (by omega) (by omega)).mono ?_; rintro e w2 ⟨rfl, hp2, hfd, hw2⟩
      have hfl : wr.heap.size < w2.heap.size := Nat.lt_of_lt_of_le (by simp) hw2.size
      have hib2 : w2.heap[ib]? = wr.heap[ib]? := (hw2.block ib (by simp; omega) hne (by omega)).trans (hb0.block ib (by omega))
      have hlc2 := HLC.out.same hib2
      have how2 := own_same (w' := w2) HOW.out (fun g hg => by
        have hlt := HOW.out.lt g hg
        exact (hw2.block g (by simp; omega) (by omega) (by omega)).trans (hb0.block g hlt.2))
      have hwr2 : Wrote w w2 pb ib io 1 := (HWR.out.thenBelow (hb0.mono hws) hil).box hw2 hws hil hne
      have HP2 := hid hp2
      have HLC2 := hid hlc2
      have HOW2 := hid how2
      have HWR2 := hid hwr2
      have HFD := hid hfd
      clear hp2 hw2 hfd hib2 hlc2 how2 hwr2 hbox hb0 HP HLC HOW HWR
      cases hf : nameOk t1
      case' false =>
        have HY := hid (show R = (false, t1, L) by rw [← HFS.out]; simp [namesT, hf])
        go_wp2_with fail
        go_ret
        exact ⟨_, by rw [HY.out]; rfl, by rw [HY.out]; rw [hf] at HP2; exact HP2.out, HLC2.out, by rw [HY.out]; exact HOW2.out, by rw [HY.out]; exact HNL.out, HWR2.out⟩
      case' true =>
        have hat : t1.kind = 2 := by simp only [nameOk, Bool.and_eq_true] at hf; exact eq_of_beq hf.2
        have e0 := HFD.out.cell (j := 0) (v := .string t1.text) rfl
        have e1 := HFD.out.cell (j := 1) (v := .int .i64 t1.at_) rfl
        rw [hf] at HP2
        have c0 := HLC2.out.cell (j := 0) (v := .slice va L.length vc) rfl
        simp only [Nat.zero_add, Nat.add_zero] at e0 e1 c0
        have c0a := alloc_cell c0 (show ib < w2.heap.size by omega)
        have HAT := hid hat
        have HFV := hid (show namesT s (gk' + 1) t1 L = R from HFS.out)
        clear HFS HFD
        go_wp2_with fail
        go_region_law (refine step_append_lies _ rfl (.tmp 17) (.tmp 19) 195 rfl w.heap.size 193 iF _ 2 24 Tryz.underlying195 hiF hF0 hF1 hF2 rfl (by decide) _ _ _ (by simp [Act.eval]) (HOW2.out.alloc _) ⟨w2.heap.size, 0, none⟩ 1 1 (nameCells t1) (by simp [Act.eval]) rfl (cells_new w2 #[.string t1.text, .int .i64 t1.at_] _) (by simp [nameCells, Value.oneCell']) (by omega) (by unfold maxLen; omega) (by omega) (by simp; omega) _ rfl ?_; intro g cp w3 hown' hgrow hgat hglt; have hb3 : Below w.heap.size w2 w3 := ((Below.refl w.heap.size w2).alloc (by omega) _).drew.grown hgrow (by show w.heap.size ≤ (w2.alloc _).heap.size; simp; omega) (fun k hk => (HOW2.out.lt k hk).1); have hlc3 := HLC2.out.same (hb3.block ib hil); have c03 := hlc3.cell (j := 0) (v := .slice va L.length vc) rfl; have cf3 : ∀ j, w3.frozen? ⟨ib, j, none⟩ = false := fun j => hlc3.frozen j; simp only [Nat.add_zero] at c03; have HLC3 := hid hlc3; have HB3 := hid hb3; have HO3 := hid hown'; clear hlc3 hb3 hown' hgrow hgat)
        all_goals
          go_wp2_with fail
          have hp4 := (HP2.out.belowAt HB3.out hpl hv1 hv2).store hne h1 h2 io (.slice (some ⟨g, 0, none⟩) (L.length + 1) cp)
          have ho4 := ownsRow_setCell_below (a := ⟨ib, io, none⟩) HO3.out hil (.slice (some ⟨g, 0, none⟩) (L.length + 1) cp)
          have hs4 := HLC3.out.set 0 (.slice (some ⟨g, 0, none⟩) (L.length + 1) cp)
          have hw4 := (HWR2.out.thenBelow HB3.out hil).setCell 0 (by omega) (.slice (some ⟨g, 0, none⟩) (L.length + 1) cp)
          simp only [Nat.add_zero] at hs4 hw4
          have hw4s := hw4.size
          refine (mark_any _ pb s (nextP s t1) 5 hp4).mono ?_; rintro e w5 ⟨rfl, hp5, hb5⟩
          have HP5 := hid hp5
          have HS5 := hid (hs4.same (hb5.block ib (by omega) hne))
          have HW5 := hid (hw4.but hb5 hil hne)
          have HO5 := hid (show w5.ownsRow w.heap.size 193 2 (.slice (some ⟨g, 0, none⟩) (L.length + 1) cp) (L ++ [t1]).length ((L ++ [t1]).flatMap nameCells) by
            have := own_same (w' := w5) ho4 (fun gg hgg => hb5.block gg (ho4.lt gg hgg).2 (by have := (ho4.lt gg hgg).1; omega))
            simpa using this)
          clear hp4 ho4 hs4 hw4 hp5 hb5 e0 e1 c0 c0a c03 cf3
          cases hk5 : ((nextP s t1).kind == 5)
          case' true =>
            have HZ := hid (show R = (true, nextP s (nextP s t1), L ++ [t1]) by rw [← HFV.out]; simp only [namesT, hf, hk5, if_true])
            rw [hk5] at HP5
            go_wp2_with fail
            go_ret
            exact ⟨_, by rw [HZ.out]; rfl, by rw [HZ.out]; exact HP5.out, HS5.out, by rw [HZ.out]; exact HO5.out, fun hh => (by rw [HZ.out] at hh; simp at hh), HW5.out⟩
          case' false =>
            have HZ := hid (show namesT s gk' (nextP s t1) (L ++ [t1]) = R by rw [← HFV.out]; simp only [namesT, hf, hk5, if_true]; rw [if_neg (by decide)])
            rw [hk5] at HP5
            have hat2 : t1.at_ < (nextP s t1).at_ := by have := next_at s t1; have := HTK.out.pos (by have := HAT.out; omega); omega
            have HT2 := hid HTK.out.next
            go_wp2_with fail
            go_roundg gk'
            case rel => exact ⟨(nextP s t1), L ++ [t1], _, by omega, by simp; omega, HZ, HP5, HT2, HS5, HO5, hid (fun hh => by simp at hh), HW5⟩
            case measure => omega
end Go.Proofs.YtlgjlfobbpgklaaGreatDoor

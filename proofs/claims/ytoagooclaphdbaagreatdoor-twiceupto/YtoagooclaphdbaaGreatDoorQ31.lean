/-
  The work of Type. An expr's text: the document's is the program's. The document's parser: what its functions hold while they run. The document's parser: an item's steps. The document's parser: all items.
-/
import Derived.Test.YtoagooclaphdbaaGreatDoorQ09
import Derived.Test.YtoagooclaphdbaaGreatDoorQ20
import Derived.Test.YtoagooclaphdbaaGreatDoorQ25
import Derived.Test.YtoagooclaphdbaaGreatDoorQ30
import Derived.Deep.LoopGhost
import Derived.BigRegion
import Derived.Maps.AppendAt
set_option linter.unusedVariables false
set_option linter.unusedSimpArgs false
set_option maxRecDepth 100000
set_option maxHeartbeats 40000000

namespace Go.Proofs.YtoagooclaphdbaaGreatDoor
open Go.RowKit
theorem workTypeC {W0:World} {B bs lb:Nat} {fm:Value} {st:St V} {L:Lay} {w:World} {E:Eng V} (hE:Eng0 W0 E bs fm) (hW:WS W0 B bs lb fm st L w st L [] w) (h00:W0.heap.size≤w.heap.size) {f nm:ByteArray} {nc:Bool} {out:Out (V × List Lk)} {stE:St V} (hr:run E nc (wType f nm) [] st=some (out,stE)) :
 Calls Tryz.prog 116 #[ptr bs,ptr lb, .agg #[.int .i64 6, .string f, .string nm]] w (WkPost B st L bs lb fm 6 out stE w):=by
 obtain ⟨its,fl,lk1,st1,hm,hr⟩:=run_getR hr
 obtain ⟨z,hz⟩:∃ z,faultV fl = .int .i64 z:=by cases fl <;> exact ⟨_,rfl⟩
 have HB0:=hid (below_newK w (.cells #[.int .i64 6, .string f, .string nm] 150))
 have hA:=new_heap w (.cells #[.int .i64 6, .string f, .string nm] 150)
 have HNT:=hid (namedTree hE hW (Nat.le_refl _) h00 (nm:=nm) hm hz HB0.out hA (hW.mine (Nat.le_refl w.heap.size)) (fun cs e=>by injection e with _ e;exact absurd e (by decide)))
 have ka1:(w.alloc (.cells #[.int .i64 6, .string f, .string nm] 150)).cell? ⟨w.heap.size,1,none⟩=_:=heap_cell (i:=1) hA
 have ka2:(w.alloc (.cells #[.int .i64 6, .string f, .string nm] 150)).cell? ⟨w.heap.size,2,none⟩=_:=heap_cell (i:=2) hA
 have kd1:(w.alloc (.cells #[.int .i64 6, .string f, .string nm] 150)).drew.cell? ⟨w.heap.size,1,none⟩=_:=heap_cell (i:=1) hA
 have kd2:(w.alloc (.cells #[.int .i64 6, .string f, .string nm] 150)).drew.cell? ⟨w.heap.size,2,none⟩=_:=heap_cell (i:=2) hA
 have HR:=hid hr
 have HE:=hid hE
 clear hA hW hm hr hE
 go_enter Tryz.func116,Tryz.ntmps116
 go_wp2_with fail
 apply share4 (F:=fun (_:Option Addr) (_:Nat) (a2:Option Addr) (c2:Nat) (w2:World)=>NTQ W0 B bs lb fm st L w st L w st1 lk1 its fl nm w.heap.size (.cells #[.int .i64 6, .string f, .string nm] 150) a2 c2 w2)
 case main =>
  intro KEY
  go_region_with (first
   | (refine (HNT.out _ ?hd).mono ?_;(case hd=>exact ⟨rfl,rfl,rfl,rfl⟩);rintro e w1 ⟨ao,c,rfl,hk1,hn1⟩;have kb2:=heap_cell (i:=2) hk1;have kb3:w1.drew.cell? ⟨w.heap.size,2,none⟩=_:=kb2)
   | (refine (hn1.out _ ?hd).mono ?_;(case hd=>exact ⟨rfl,rfl,rfl,rfl⟩);rintro e w2 ⟨a2,c2,rfl,hq⟩))
  all_goals
   exact KEY ao c a2 c2 w2 hq.out
 case key =>
  intro ao c a2 c2 w2 hq
  obtain ⟨hk2,L1,hg,hkm,hrow,s,hs,hits⟩:=hq
  have HG:=hid hg
  have HIT:=hid (And.intro hs hits)
  have HK2:=hid hk2
  have HKM:=hid hkm
  have HROW:=hid hrow
  have q1:=heap_cell (i:=1) hk2
  obtain ⟨l,hl⟩:∃ l,l=namedX nm its:=⟨_,rfl⟩
  have hr:=HR.out
  rw [←hl] at hr ⊢
  have HL:=hid hl
  clear HNT ka1 ka2 kd1 kd2 HR hg hs hits hk2 hkm hrow hl
  cases l with
  | nil =>
   obtain ⟨rfl,rfl⟩:=run_ret hr
   clear hr
   simp only [List.length_nil]
   go_wp2
   go_ret
   exact HG.out.s.doneS (kind:=6) (by decide) (by decide) (by decide) _
  | cons i l =>
   cases l with
   | cons j l =>
    obtain ⟨rfl,rfl⟩:=run_ret hr
    simp only [List.length_cons]
    obtain ⟨n,hn⟩:∃ n,n=l.length+1+1:=⟨_,rfl⟩
    rw [←hn]
    have h1:((n:Int) == 1)=false:=by rw [beq_eq_false_iff_ne];omega
    clear hr hn
    go_wp2
    go_ret
    exact HG.out.s.doneS (kind:=6) (by decide) (by decide) (by decide) _
   | nil =>
    simp only [List.length_cons,List.length_nil,Nat.zero_add]
    cases hex:i.ex with
    | none =>
     simp [hex,run] at hr
    | some e =>
     simp only [hex] at hr
     have hrw:TRow L1 w2 a2 c2 [i]:=by have:=HROW.out;rwa [←HL.out] at this
     obtain ⟨gb,rfl,hc4⟩:=trow_item hrw (a:=0) rfl (j:=4) (u:=encX e) (by simp [itCells,itOf,hex,exV])
     obtain ⟨hno,hsz,hty⟩:=named_ok HIT.out.1 HIT.out.2 HL.out hex
     have HR3:=hid hr
     have HRW:=hid hrw
     obtain ⟨ns,hns⟩:∃ ns,ns=namesX e []:=⟨_,rfl⟩
     have HNS:=hid (fun W=>(show Calls Tryz.prog 145 #[encX e] W fun e' w' => ∃ ao c,e' = .returned (.slice ao ns.length c)∧w'.ownsRow W.heap.size 9 1 (.slice ao ns.length c) ns.length (ns.map .string)∧Below W.heap.size W w' by rw [hns];exact names_any (e:=e) (by omega) W))
     rw [←hns] at hr
     have HNL:=hid (show ns.Nodup∧ns.length≤401 by
      rw [hns]
      exact ⟨namesX_nodup e [] (by simp),by have:=names_len e [];simp at this;omega⟩)
     have HR3:=hid hr
     have HRW:=hid hrw
     have HNO:=hid hno
     have HTY:=hid hty
     have hM4:∀ o,(w2.alloc o).cell? ⟨gb,4,none⟩=some (encX e):=fun o=>cell_kept (below_newK w2 o) hc4
     have hmk:∀ W:World,(Instr.makeMap 242 none).run Tryz.prog W = .ok (.map (some W.heap.size)) (W.alloc (.map #[] 0)):=fun W=>@run_makeMap Tryz.prog 242 W
     have HEX:=hid hex
     clear hr hrw hno hty hex HROW hns
     go_wp2_with fail
     refine (HNS.out _).mono ?_
     rintro e2 w3 ⟨na,nc3,rfl,hown,hb3⟩
     have hb2:=below_newK w2 (.map #[] 0)
     have HS:=hid (HG.out.below (below_seq hb2 hb3)).s
     have HNW:=hid (row_of_own (O:=L1.own) hown fun g hg=>HG.out.s.e.lt (by simp at hg;omega))
     have HMB:=hid (HG.out.s.mine (b:=w2.heap.size) (Nat.le_refl _))
     have HFM:=hid (HG.out.s.m.fresh (mb:=w2.heap.size) (Nat.le_refl _))
     have HW2:=hid (show w.heap.size≤w2.heap.size from HG.out.n.fr.size)
     have HLP:Hid (LP W0 B bs lb fm st L w w.heap.size (.cells #[.int .i64 6, .string f, .string nm] 150) w2.heap.size [] na nc3 ns (some ⟨gb,0,none⟩) c2 [i] st1 L1 lk1 w3):=hid ⟨HS.out,below_heap (below_seq hb2 hb3) (heap_lt HK2.out) HK2.out,HKM.out,⟨#[],0,below_heap hb3 (heap_lt (new_heap w2 (.map #[] 0))) (new_heap w2 (.map #[] 0)),rfl,by simp⟩,HMB.out,HNW.out,Row.below HRW.out (below_seq hb2 hb3)⟩
     clear hown hb3 hb2 HS HNW HMB hc4 hM4 hmk q1 hsz
     generalize w2.heap.size=mb at HLP HFM HW2 ⊢
     go_wp2
     go_loopg [29] ns.length (fun f' vi wr => ∃ (k:Nat) (l:List (ByteArray × ByteArray × Int)) (M:ByteArray→ByteArray) (st':St V) (L':Lay) (lk:List Lk),k+f'=ns.length∧vi = .int .i64 (k:Nat)∧LP W0 B bs lb fm st L w w.heap.size (.cells #[.int .i64 6, .string f, .string nm] 150) mb l na nc3 ns (some ⟨gb,0,none⟩) c2 [i] st' L' lk wr∧l.map (·.1)=ns.take k∧(∀ x,(∃ z,(x,M x,z)∈l)∨(x ∉ l.map (·.1)∧M x=nob))∧run E nc (typesP f (fun M => .ret (.s (if eqB (typeX M e) i.typ then i.typ else bad_))) (ns.drop k) M) lk st'=some (out,stE))
     case atStart=>exact ⟨0,[],fun _=>nob,st1,L1,lk1,by omega,rfl,HLP.out,rfl,fun x => .inr ⟨by simp,rfl⟩,HR3.out⟩
     case round =>
      clear HLP HR3
      obtain ⟨k,l,M,st',L',lk,hk,rfl,hLP,hl,hM,hr⟩:=hrel
      have hkc:(0:Int)≤(k:Int):=by omega
      have hnl:=HNL.out.2
      by_cases hlt:k < ns.length
      · have hlt2:(k:Int) < (ns.length:Int):=by omega
        obtain ⟨nk,hnk⟩:∃ nk,ns[k]? = some nk:=⟨ns[k],List.getElem?_eq_getElem hlt⟩
        have hd:ns.drop k=nk :: ns.drop (k+1):=by
         rw [List.drop_eq_getElem_cons hlt]
         congr 1
         rw [List.getElem?_eq_getElem hlt] at hnk
         injection hnk
        rw [hd] at hr
        obtain ⟨g,rfl,hc⟩:=row_strs hLP.n k nk hnk
        have HSA:=hid (saidC HE.out hLP.s hLP.s.n.fr.size h00 hr)
        have kk1:=heap_cell (i:=1) hLP.k
        have HLPP:=hid hLP
        have HFR:=hid (show nk ∉ l.map (·.1) by rw [hl];exact nodup_take HNL.out.1 hnk)
        have HLT:=hid (show l.map (·.1) ++ [nk]=ns.take (k+1) by rw [hl,List.take_add_one,hnk];rfl)
        have HMM:=hid hM
        have HK:=hid hk
        clear hLP hr hnk hd hk hl hM
        go_wp2_with fail
        refine HSA.out.mono ?_
        rintro e3 w4 ⟨t,rfl,hct⟩
        obtain ⟨L4,lk4,st4,hr4,hg4⟩:=hct.out
        have hlp4:=HLPP.out.got (fun cs e=>by injection e with _ e;exact absurd e (by decide)) hg4
        obtain ⟨es,n4,hup,hlp5⟩:=hlp4.put (fun es n e=>by cases e) HW2.out h00 HFM.out nk t 0 HFR.out
        have HLP5:=hid hlp5
        have HR4:=hid hr4
        have HMM5:=hid (show ∀ x,(∃ z,(x,(if x=nk then t else M x),z)∈l ++ [(nk,t,(0:Int))])∨(x ∉ (l ++ [(nk,t,(0:Int))]).map (·.1)∧(if x=nk then t else M x)=nob) from fun x=>by
         by_cases hx:x=nk
         · subst hx
           exact .inl ⟨0,by simp⟩
         · rw [if_neg hx]
           rcases HMM.out x with ⟨z,h⟩ | ⟨h1,h2⟩
           · exact .inl ⟨z,List.mem_append_left _ h⟩
           · refine .inr ⟨?_,h2⟩
             rw [List.map_append,List.mem_append]
             rintro (h | h)
             · exact h1 h
             · simp at h;exact hx h)
        clear hct hr4 hg4 hlp4 hlp5 HSA HLPP hc kk1 HMM HFR
        go_wp2
        go_roundg (ns.length - (k+1))
        case rel=>exact ⟨k+1,_,_,st4,L4,lk4,by have:=HK.out;omega,by go_num,HLP5.out,by rw [List.map_append];exact HLT.out,HMM5.out,HR4.out⟩
        case measure=>have:=HK.out;omega
      · have hke:k=ns.length:=by omega
        have hlt2:¬ ((k:Int) < (ns.length:Int)):=by omega
        rw [hke,List.drop_length] at hr
        obtain ⟨hout,rfl⟩:=run_ret hr
        have HMY:=hid (show MY (.map (some mb)) M wr from ⟨fun W hW x=>by
         rcases hM x with ⟨z,h⟩ | ⟨h1,h2⟩
         · exact ⟨z,look_mn (hLP.m.below hW) x (M x) z (.inl h)⟩
         · exact ⟨0,look_mn (hLP.m.below hW) x (M x) 0 (.inr ⟨h1,h2,rfl⟩)⟩⟩)
        obtain ⟨g1,hg1,hc4⟩:=trow_item hLP.t (a:=0) rfl (j:=4) (u:=exV i.ex) rfl
        have hc5:wr.cell? ⟨g1,4,none⟩=some (encX e):=by
         have:=hc4
         simpa [HEX.out,exV] using this
        obtain ⟨g2,hg2,hc3⟩:=trow_item hLP.t (a:=0) rfl (j:=3) (u := .string i.typ) rfl
        cases hg1
        cases hg2
        have HLPP:=hid hLP
        have hty0:∀ W,Drawn wr W→Calls Tryz.prog 147 #[encX e, .map (some mb)] W fun e' w'=>e' = .returned (.string (typeX M e))∧Below wr.heap.size wr w':=fun W hW=>(typeOf_any HNO.out (.map (some mb)) M W (HMY.out.below hW.below)).mono fun e' w' ⟨h1,h2⟩=>⟨h1,below_seq hW.below h2⟩
        obtain ⟨ty,hty1⟩:∃ ty,ty=typeX M e:=⟨_,rfl⟩
        obtain ⟨it,hit⟩:∃ it,it=i.typ:=⟨_,rfl⟩
        rw [←hty1] at hty0 hout
        rw [←hit] at hc3 hout
        have HOUT:=hid hout
        have HTY0:=hid hty0
        clear hLP hr hk hl hM hc4 hty0 hty1 hit hout
        have hd5:wr.drew.cell? ⟨gb,4,none⟩=some (encX e):=hc5
        have hd3:wr.drew.cell? ⟨gb,3,none⟩=some (.string it):=hc3
        cases hcmp:(ty.toList == it.toList) with
        | true =>
         have HO2:=hid (show out = .ok (.s it,lk) by rw [HOUT.out,show eqB ty it=true from hcmp];rfl)
         go_wp2_with fail
         go_region_with (refine (HTY0.out _ (by exact ⟨rfl,rfl,rfl,rfl⟩)).mono ?_;rintro e3 w4 ⟨rfl,hb4⟩;have hc6:=cell_kept hb4 hc3;have hd6:w4.drew.cell? ⟨gb,3,none⟩=some (.string it):=hc6;have HB4:=hid hb4)
         all_goals
          go_wp2
          go_ret
          have hb5:Below wr.heap.size wr _:=HB4.out
          rw [HO2.out]
          exact (HLPP.out.s.below hb5).doneS (kind:=6) (by decide) (by decide) (by decide) _
        | false =>
         have HO2:=hid (show out = .ok (.s bad_,lk) by rw [HOUT.out,show eqB ty it=false from hcmp];rfl)
         go_wp2_with fail
         go_region_with (refine (HTY0.out _ (by exact ⟨rfl,rfl,rfl,rfl⟩)).mono ?_;rintro e3 w4 ⟨rfl,hb4⟩;have hc6:=cell_kept hb4 hc3;have hd6:w4.drew.cell? ⟨gb,3,none⟩=some (.string it):=hc6;have HB4:=hid hb4)
         all_goals
          go_wp2
          go_ret
          have hb5:Below wr.heap.size wr _:=HB4.out
          rw [HO2.out]
          exact (HLPP.out.s.below hb5).doneS (kind:=6) (by decide) (by decide) (by decide) _
theorem litE' {t:ByteArray} {l:List UInt8}:(t.toList == l)=eqB t ⟨⟨l⟩⟩:=by simp [eqB,ByteArray.toList_eq]
theorem leaf_writes {t:ByteArray} {x:Value} (h:leafV t=some x):Writes x (shownT t):=by
 unfold leafV at h
 split at h
 · rename_i hc
   cases h
   have hnot:∀ l:List UInt8,(t.toList == l)=true→t=⟨⟨l⟩⟩:=fun l hl=>eqB_iff.1 (litE'.symm.trans hl)
   simp only [Bool.or_eq_true] at hc
   rcases hc with hc | hc
   · have e:=hnot _ hc
     subst e
     rw [hc]
     exact writes_truth true
   · have e:=hnot _ hc
     subst e
     have:((⟨#[102,97,108,115,101]⟩:ByteArray).toList == [116,114,117,101])=false:=by simp [ByteArray.toList_eq]
     rw [this]
     exact writes_truth false
 · split at h
   · rename_i hn
     cases h
     unfold shownT
     rw [if_pos hn]
     exact writes_number hn
   · rename_i hn
     split at h
     · cases h
       unfold shownT
       rw [if_neg hn]
       exact writes_name t
     · cases h
theorem strip_len:∀ l:List UInt8,(strip l).length≤l.length
 | []=>Nat.le_refl _
 | [_]=>Nat.le_refl _
 | c :: d :: r=>by
  unfold strip
  split
  · have:=strip_len (d :: r);simp at *;omega
  · exact Nat.le_refl _
theorem shownT_size (t:ByteArray) (ht:t.size≤400):(shownT t).size≤400:=by
 unfold shownT
 split
 · have:=strip_len t.data.toList
   have e:(stripT t).size=(strip t.data.toList).length:=by unfold stripT;exact bsz1 _
   have e2:t.data.toList.length=t.size:=by simp
   omega
 · exact ht
theorem pairT_size (op:List UInt8) (x y:ByteArray):(pairT op x y).size=x.size+y.size+op.length+2:=by
 simp only [pairT,ByteArray.size_append,bsz1,List.length_cons,List.length_nil];omega
theorem choiceT_size (x y z:ByteArray):(choiceT x y z).size=x.size+y.size+z.size+4:=by
 simp only [choiceT,ByteArray.size_append,sz1,bsz1,List.length_cons,List.length_nil];omega
abbrev put3 (w:World) (b:Nat) (v0 v1 v2:Value):World:=((w.setCell ⟨b,0,none⟩ v0).setCell ⟨b,1,none⟩ v1).setCell ⟨b,2,none⟩ v2
theorem RP.other {toks:List Tok} {rb tb cap a nest:Nat} {no:Bool} {w:World} (h:RP toks rb tb cap a nest no w.heap) {b i:Nat} (h1:b≠rb) (h2:b≠tb) (v:Value):RP toks rb tb cap a nest no (w.setCell ⟨b,i,none⟩ v).heap:=by
 obtain ⟨cur,hc,ht⟩:=h.t
 exact ⟨h.ne,(heap_setCell_ne (Ne.symm h1) _).trans h.p,cur,(heap_setCell_ne (Ne.symm h2) _).trans hc,ht⟩
structure DS (toks:List Tok) (rb tb cap:Nat) (w wr:World) (c nest:Nat) (no:Bool):Prop where
 pl:rb < w.heap.size
 tl:tb < w.heap.size
 rp:RP toks rb tb cap c nest no wr.heap
 fr:Fr [rb] w wr
section
variable {toks:List Tok} {rb tb cap c nest:Nat} {no:Bool} {w wr w':World}
theorem DS.refl (h:RP toks rb tb cap c nest no w.heap):DS toks rb tb cap w w c nest no:=by
 have h0:=h.t
 obtain ⟨cur,hc,_⟩:=h0
 exact ⟨heap_lt h.p,heap_lt hc,h,Fr.refl _ _⟩
theorem DS.alloc (h:DS toks rb tb cap w wr c nest no) (o:Obj):DS toks rb tb cap w (wr.alloc o) c nest no :=
 ⟨h.pl,h.tl,h.rp.below ((Below.refl _ _).alloc (Nat.le_refl _) _),h.fr.alloc _⟩
theorem DS.below (h:DS toks rb tb cap w wr c nest no) (hb:Below wr.heap.size wr w'):DS toks rb tb cap w w' c nest no:=⟨h.pl,h.tl,h.rp.below hb,h.fr.trans (Fr.of_below hb)⟩
theorem DS.set (h:DS toks rb tb cap w wr c nest no) {b:Nat} (hb:w.heap.size≤b) (i:Nat) (v:Value):DS toks rb tb cap w (wr.setCell ⟨b,i,none⟩ v) c nest no :=
 ⟨h.pl,h.tl,h.rp.other (by have:=h.pl;omega) (by have:=h.tl;omega) v,h.fr.setCell _ (.inr hb) _⟩
theorem DS.put (h:DS toks rb tb cap w wr c nest no) {b:Nat} (hb:w.heap.size≤b) (v0 v1 v2:Value):DS toks rb tb cap w (put3 wr b v0 v1 v2) c nest no:=((h.set hb 0 v0).set hb 1 v1).set hb 2 v2
theorem DS.drew (h:DS toks rb tb cap w wr c nest no):DS toks rb tb cap w wr.drew c nest no:=⟨h.pl,h.tl,h.rp,h.fr.drew⟩
theorem DS.at (h:DS toks rb tb cap w wr c nest no) (b:Nat):DS toks rb tb cap w (wr.setCell ⟨rb,1,none⟩ (.int .i64 b)) b nest no:=⟨h.pl,h.tl,h.rp.at b,h.fr.setCell _ (.inl (by simp)) _⟩
end
theorem Later.drew {K:Nat→Prop} {a b:World} (h:Later K a b):Later K a b.drew:=⟨h.size,h.block⟩
theorem Later.put3 {K:Nat→Prop} {a b:World} (h:Later K a b) {p:Nat} (hp:¬ K p) (v0 v1 v2:Value):Later K a (put3 b p v0 v1 v2):=((h.set (p:=⟨p,0,none⟩) hp v0).set (p:=⟨p,1,none⟩) hp v1).set (p:=⟨p,2,none⟩) hp v2
def RI (K:Nat→Prop) (w:World) (at_:Int) (word nm ty:ByteArray) (e:Value) (i:It):Prop :=
 at_=i.num∧nm=i.name∧i.name.size≤8∧((i.kind=0∧word=⟨#[117,115,101]⟩∧i.ex = .nilIface) ∨
  (((i.kind=1∧word=⟨#[108,101,116]⟩)∨(i.kind=2∧word=⟨#[112,117,98]⟩))∧ty=i.typ∧(i.typ=⟨#[105,110,116]⟩∨i.typ=⟨#[98,111,111,108]⟩)∧∃ n,n≤401∧Rep K w n e i.ex))
theorem RI.mono {K J:Nat→Prop} {w:World} {at_:Int} {word nm ty:ByteArray} {e:Value} {i:It} (h:RI K w at_ word nm ty e i) (hJ:∀ k,k < w.heap.size→K k→J k):RI J w at_ word nm ty e i:=by
 obtain ⟨h1,h2,h3,h4 | ⟨h4,h5,h6,n,hn,hr⟩⟩:=h
 · exact ⟨h1,h2,h3, .inl h4⟩
 · exact ⟨h1,h2,h3, .inr ⟨h4,h5,h6,n,hn,rep_mono hr hJ⟩⟩
theorem RI.later {K:Nat→Prop} {w w':World} {at_:Int} {word nm ty:ByteArray} {e:Value} {i:It} (h:RI K w at_ word nm ty e i) (hl:Later K w w'):RI K w' at_ word nm ty e i:=by
 obtain ⟨h1,h2,h3,h4 | ⟨h4,h5,h6,n,hn,hr⟩⟩:=h
 · exact ⟨h1,h2,h3, .inl h4⟩
 · exact ⟨h1,h2,h3, .inr ⟨h4,h5,h6,n,hn,rep_later hr hl⟩⟩
def Its (K:Nat→Prop) (w:World):List It→List Value→Prop
 | [],xs=>xs = []
 | i :: is,xs => ∃ (at_:Nat) (word nm ty:ByteArray) (op:Int) (t:ByteArray) (ao:Option Addr) (m c:Nat) (ys:List Value),
  xs = [.int .i64 at_, .string word, .string nm, .string ty, .int .u8 op, .string t, .slice ao m c] ++ ys∧RI K w at_ word nm ty (.agg #[.int .u8 op, .string t, .slice ao m c]) i∧Its K w is ys
theorem Its.mono {K J:Nat→Prop} {w:World} (hJ:∀ k,k < w.heap.size→K k→J k):∀ {l:List It} {xs:List Value},Its K w l xs→Its J w l xs
 | [],_,h=>h
 | _ :: _,_,h=>by
  obtain ⟨at_,word,nm,ty,op,t,ao,m,c,ys,h1,h2,h3⟩:=h
  exact ⟨at_,word,nm,ty,op,t,ao,m,c,ys,h1,h2.mono hJ,Its.mono hJ h3⟩
theorem Its.later {K:Nat→Prop} {w w':World} (hl:Later K w w'):∀ {l:List It} {xs:List Value},Its K w l xs→Its K w' l xs
 | [],_,h=>h
 | _ :: _,_,h=>by
  obtain ⟨at_,word,nm,ty,op,t,ao,m,c,ys,h1,h2,h3⟩:=h
  exact ⟨at_,word,nm,ty,op,t,ao,m,c,ys,h1,h2.later hl,Its.later hl h3⟩
theorem Its.snoc {K:Nat→Prop} {w:World} {i:It} {at_:Nat} {word nm ty:ByteArray} {op:Int} {t:ByteArray} {ao:Option Addr} {m c:Nat} (hi:RI K w at_ word nm ty (.agg #[.int .u8 op, .string t, .slice ao m c]) i) :
 ∀ {l:List It} {xs:List Value},Its K w l xs→Its K w (l ++ [i]) (xs ++ [.int .i64 at_, .string word, .string nm, .string ty, .int .u8 op, .string t, .slice ao m c])
 | [],xs,h=>by
  have:xs = []:=h
  subst this
  exact ⟨at_,word,nm,ty,op,t,ao,m,c,[],rfl,hi,rfl⟩
 | _ :: _,xs,h=>by
  obtain ⟨a2,word2,nm2,ty2,op2,t2,ao2,m2,c2,ys,rfl,h2,h3⟩:=h
  refine ⟨a2,word2,nm2,ty2,op2,t2,ao2,m2,c2,ys ++ _,?_,h2,Its.snoc hi h3⟩
  simp
structure QS (toks:List Tok) (tb cap:Nat) (w wr:World) (a:Nat) (no:Bool) (v:Value) (acc:List It) (xs:List Value):Prop where
 tl:tb < w.heap.size
 lt:w.heap.size < wr.heap.size
 rp:RP toks w.heap.size tb cap a 0 no wr.heap
 bl:Below w.heap.size w wr
 own:wr.ownsRow (w.heap.size+1) 294 7 v acc.length xs
 its:Its (fun k=>w.heap.size < k∧v.ownBlock≠some k) wr acc xs
section
variable {toks:List Tok} {tb cap:Nat} {w wr:World} {a:Nat} {no:Bool} {v:Value} {acc:List It} {xs:List Value}
theorem QS.alloc (h:QS toks tb cap w wr a no v acc xs) (o:Obj):QS toks tb cap w (wr.alloc o) a no v acc xs :=
 ⟨h.tl,by have:=h.lt;simp;omega,h.rp.below ((Below.refl _ _).alloc (Nat.le_refl _) _),h.bl.alloc h.bl.size _,h.own.alloc _,Its.later ((Later.refl _ _).alloc _) h.its⟩
theorem QS.put (h:QS toks tb cap w wr a no v acc xs) {w':World} {v':Value} {i:It} {at_:Nat} {word nm ty:ByteArray} {op:Int} {t:ByteArray} {ao:Option Addr} {m c:Nat} (hi:RI (fun k=>w.heap.size < k∧v.ownBlock≠some k) wr at_ word nm ty (.agg #[.int .u8 op, .string t, .slice ao m c]) i)
 (hown:w'.ownsRow (w.heap.size+1) 294 7 v' (acc.length+1) (xs ++ [.int .i64 at_, .string word, .string nm, .string ty, .int .u8 op, .string t, .slice ao m c])) (hg:wr.grownBy w' v.ownBlock) (hv:v'.ownBlock=v.ownBlock∨v'.ownBlock=some wr.heap.size) :
 QS toks tb cap w w' a no v' (acc ++ [i]) (xs ++ [.int .i64 at_, .string word, .string nm, .string ty, .int .u8 op, .string t, .slice ao m c]):=by
 have hlt:=fun k hk=>(h.own.lt k hk).1
 have hb:∀ k,k < w.heap.size+1→w'.heap[k]? = wr.heap[k]?:=fun k hk=>hg.block k (by have:=h.lt;omega) fun e=>by have:=hlt k e.symm;omega
 obtain ⟨cur,hc,hcc⟩:=h.rp.t
 have hl:Later (fun k=>w.heap.size < k∧v.ownBlock≠some k) wr w':=⟨hg.size,fun k hk hn=>hg.block k hk fun e=>hn.2 e.symm⟩
 have hnew:=Its.snoc hi h.its
 have hm:Its (fun k=>w.heap.size < k∧v.ownBlock≠some k∧v'.ownBlock≠some k) wr _ _:=Its.mono (fun k hk hn=>⟨hn.1,hn.2,by
  rcases hv with e | e
  · rw [e];exact hn.2
  · rw [e];intro e2;have:=Option.some.inj e2;omega⟩) hnew
 exact ⟨h.tl,Nat.lt_of_lt_of_le h.lt hg.size,⟨h.rp.ne,(hb _ (by omega)).trans h.rp.p,cur,(hb _ (by have:=h.tl;omega)).trans hc,hcc⟩,h.bl.grown hg h.bl.size (fun k hk=>by have:=hlt k hk;omega),by simpa using hown,
  Its.mono (fun k _ hn=>⟨hn.1,hn.2.2⟩) (Its.later (hl.mono fun k hn=>⟨hn.1,hn.2.1⟩) hm)⟩
end
end Go.Proofs.YtoagooclaphdbaaGreatDoor

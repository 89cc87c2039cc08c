/-
  The work of Type. The work of Exports.
-/
import Derived.Test.YthibodlojlkppaaGreatDoorB26
import Derived.Test.YthibodlojlkppaaGreatDoorB29
set_option linter.unusedVariables false
set_option linter.unusedSectionVars false
set_option linter.unusedSimpArgs false
set_option maxRecDepth 100000
set_option maxHeartbeats 40000000

namespace Go.Proofs.YthibodlojlkppaaGreatDoor
open Go.RowKit
variable [DecidableEq K] [LawfulBEq Lk]
theorem workTypeC {W0:World} {B bs lb:Nat} {fm:Value} {st:St V} {L:Lay} {w:World} {E:Eng V} (hE:Eng0 W0 E bs fm) (hW:WS W0 B bs lb fm st L w st L [] w) (h00:W0.heap.size≤w.heap.size) {f nm:ByteArray} {nc:Bool} {out:Out (V × List Lk)} {stE:St V} (hr:run E nc (wType f nm) [] st=some (out,stE)) :
 Calls Tryz.prog 75 #[ptr bs,ptr lb, .agg #[.int .i64 6, .string f, .string nm]] w (WkPost B st L bs lb fm 6 out stE w):=by
 obtain ⟨its,fl,lk1,st1,hm,hr⟩:=run_getR hr
 obtain ⟨z,hz⟩:∃ z,faultV fl = .int .i64 z:=by cases fl <;> exact ⟨_,rfl⟩
 have HB0:=hid (below_newK w (.cells #[.int .i64 6, .string f, .string nm] 99))
 have hA:=new_heap w (.cells #[.int .i64 6, .string f, .string nm] 99)
 have HNT:=hid (namedTree hE hW (Nat.le_refl _) h00 (nm:=nm) hm hz HB0.out hA (hW.mine (Nat.le_refl w.heap.size)) (fun cs e=>by injection e with _ e;exact absurd e (by decide)))
 have ka1:(w.alloc (.cells #[.int .i64 6, .string f, .string nm] 99)).cell? ⟨w.heap.size,1,none⟩=_:=heap_cell (i:=1) hA
 have ka2:(w.alloc (.cells #[.int .i64 6, .string f, .string nm] 99)).cell? ⟨w.heap.size,2,none⟩=_:=heap_cell (i:=2) hA
 have kd1:(w.alloc (.cells #[.int .i64 6, .string f, .string nm] 99)).drew.cell? ⟨w.heap.size,1,none⟩=_:=heap_cell (i:=1) hA
 have kd2:(w.alloc (.cells #[.int .i64 6, .string f, .string nm] 99)).drew.cell? ⟨w.heap.size,2,none⟩=_:=heap_cell (i:=2) hA
 have HR:=hid hr
 have HE:=hid hE
 clear hA hW hm hr hE
 go_enter Tryz.func75,Tryz.ntmps75
 go_wp2_with fail
 apply share4 (F:=fun (_:Option Addr) (_:Nat) (a2:Option Addr) (c2:Nat) (w2:World)=>NTQ W0 B bs lb fm st L w st L w st1 lk1 its fl nm w.heap.size (.cells #[.int .i64 6, .string f, .string nm] 99) a2 c2 w2)
 case main =>
  intro KEY
  go_region_with (first
   | (refine (HNT.out _ ?hd).mono ?_;(case hd=>exact ⟨rfl,rfl,rfl,rfl⟩);rintro e w1 ⟨ao,c,rfl,hk1,hn1⟩;have kb2:=heap_cell (i:=2) hk1;have kb3:w1.drew.cell? ⟨w.heap.size,2,none⟩=_:=kb2)
   | (refine (hn1.out _ ?hd).mono ?_;(case hd=>exact ⟨rfl,rfl,rfl,rfl⟩);rintro e w2 ⟨a2,c2,rfl,hq⟩))
  all_goals
   exact KEY ao c a2 c2 w2 hq.out
 case key =>
  intro ao c a2 c2 w2 hq
  obtain ⟨hk2,L1,hg,hkm,hrow,s,hs,hits⟩:=hq
  have HG:=hid hg
  have HIT:=hid (And.intro hs hits)
  have HK2:=hid hk2
  have HKM:=hid hkm
  have HROW:=hid hrow
  have q1:=heap_cell (i:=1) hk2
  obtain ⟨l,hl⟩:∃ l,l=namedX nm its:=⟨_,rfl⟩
  have hr:=HR.out
  rw [←hl] at hr ⊢
  have HL:=hid hl
  clear HNT ka1 ka2 kd1 kd2 HR hg hs hits hk2 hkm hrow hl
  cases l with
  | nil =>
   obtain ⟨rfl,rfl⟩:=run_ret hr
   clear hr
   simp only [List.length_nil]
   go_wp2
   go_ret
   exact HG.out.s.doneS (kind:=6) (by decide) (by decide) (by decide) _
  | cons i l =>
   cases l with
   | cons j l =>
    obtain ⟨rfl,rfl⟩:=run_ret hr
    simp only [List.length_cons]
    obtain ⟨n,hn⟩:∃ n,n=l.length+1+1:=⟨_,rfl⟩
    rw [←hn]
    have h1:((n:Int) == 1)=false:=by rw [beq_eq_false_iff_ne];omega
    clear hr hn
    go_wp2
    go_ret
    exact HG.out.s.doneS (kind:=6) (by decide) (by decide) (by decide) _
   | nil =>
    simp only [List.length_cons,List.length_nil,Nat.zero_add]
    cases hex:i.ex with
    | none =>
     simp [hex,run] at hr
    | some e =>
     simp only [hex] at hr
     have hrw:TRow L1 w2 a2 c2 [i]:=by have:=HROW.out;rwa [←HL.out] at this
     obtain ⟨gb,rfl,hc4⟩:=trow_item hrw (a:=0) rfl (j:=4) (u:=encX e) (by simp [itCells,itOf,hex,exV])
     obtain ⟨hno,hsz,hty⟩:=named_ok HIT.out.1 HIT.out.2 HL.out hex
     have HR3:=hid hr
     have HRW:=hid hrw
     obtain ⟨ns,hns⟩:∃ ns,ns=namesX e []:=⟨_,rfl⟩
     have HNS:=hid (fun W=>(show Calls Tryz.prog 102 #[encX e] W fun e' w' => ∃ ao c,e' = .returned (.slice ao ns.length c)∧w'.ownsRow W.heap.size 9 1 (.slice ao ns.length c) ns.length (ns.map .string)∧Below W.heap.size W w' by rw [hns];exact names_any (e:=e) (by omega) W))
     rw [←hns] at hr
     have HNL:=hid (show ns.Nodup∧ns.length≤401 by
      rw [hns]
      exact ⟨namesX_nodup e [] (by simp),by have:=names_len e [];simp at this;omega⟩)
     have HR3:=hid hr
     have HRW:=hid hrw
     have HNO:=hid hno
     have HTY:=hid hty
     have hM4:∀ o,(w2.alloc o).cell? ⟨gb,4,none⟩=some (encX e):=fun o=>cell_kept (below_newK w2 o) hc4
     have hmk:∀ W:World,(Instr.makeMap 195 none).run Tryz.prog W = .ok (.map (some W.heap.size)) (W.alloc (.map #[] 0)):=fun W=>@run_makeMap Tryz.prog 195 W
     have HEX:=hid hex
     clear hr hrw hno hty hex HROW hns
     go_wp2_with fail
     refine (HNS.out _).mono ?_
     rintro e2 w3 ⟨na,nc3,rfl,hown,hb3⟩
     have hb2:=below_newK w2 (.map #[] 0)
     have HS:=hid (HG.out.below (below_seq hb2 hb3)).s
     have HNW:=hid (row_of_own (O:=L1.own) hown fun g hg=>HG.out.s.e.lt (by simp at hg;omega))
     have HMB:=hid (HG.out.s.mine (b:=w2.heap.size) (Nat.le_refl _))
     have HFM:=hid (HG.out.s.m.fresh (mb:=w2.heap.size) (Nat.le_refl _))
     have HW2:=hid (show w.heap.size≤w2.heap.size from HG.out.n.fr.size)
     have HLP:Hid (LP W0 B bs lb fm st L w w.heap.size (.cells #[.int .i64 6, .string f, .string nm] 99) w2.heap.size [] na nc3 ns (some ⟨gb,0,none⟩) c2 [i] st1 L1 lk1 w3):=hid ⟨HS.out,below_heap (below_seq hb2 hb3) (heap_lt HK2.out) HK2.out,HKM.out,⟨#[],0,below_heap hb3 (heap_lt (new_heap w2 (.map #[] 0))) (new_heap w2 (.map #[] 0)),rfl,by simp⟩,HMB.out,HNW.out,Row.below HRW.out (below_seq hb2 hb3)⟩
     clear hown hb3 hb2 HS HNW HMB hc4 hM4 hmk q1 hsz
     generalize w2.heap.size=mb at HLP HFM HW2 ⊢
     go_wp2
     go_loopg [29] ns.length (fun f' vi wr => ∃ (k:Nat) (l:List (ByteArray × ByteArray × Int)) (M:ByteArray→ByteArray) (st':St V) (L':Lay) (lk:List Lk),k+f'=ns.length∧vi = .int .i64 (k:Nat)∧LP W0 B bs lb fm st L w w.heap.size (.cells #[.int .i64 6, .string f, .string nm] 99) mb l na nc3 ns (some ⟨gb,0,none⟩) c2 [i] st' L' lk wr∧l.map (·.1)=ns.take k∧(∀ x,(∃ z,(x,M x,z)∈l)∨(x ∉ l.map (·.1)∧M x=nob))∧run E nc (typesP f (fun M => .ret (.s (if eqB (typeX M e) i.typ then i.typ else bad_))) (ns.drop k) M) lk st'=some (out,stE))
     case atStart=>exact ⟨0,[],fun _=>nob,st1,L1,lk1,by omega,rfl,HLP.out,rfl,fun x => .inr ⟨by simp,rfl⟩,HR3.out⟩
     case round =>
      clear HLP HR3
      obtain ⟨k,l,M,st',L',lk,hk,rfl,hLP,hl,hM,hr⟩:=hrel
      have hkc:(0:Int)≤(k:Int):=by omega
      have hnl:=HNL.out.2
      by_cases hlt:k < ns.length
      · have hlt2:(k:Int) < (ns.length:Int):=by omega
        obtain ⟨nk,hnk⟩:∃ nk,ns[k]? = some nk:=⟨ns[k],List.getElem?_eq_getElem hlt⟩
        have hd:ns.drop k=nk :: ns.drop (k+1):=by
         rw [List.drop_eq_getElem_cons hlt]
         congr 1
         rw [List.getElem?_eq_getElem hlt] at hnk
         injection hnk
        rw [hd] at hr
        obtain ⟨g,rfl,hc⟩:=row_strs hLP.n k nk hnk
        have HSA:=hid (saidC HE.out hLP.s hLP.s.n.fr.size h00 hr)
        have kk1:=heap_cell (i:=1) hLP.k
        have HLPP:=hid hLP
        have HFR:=hid (show nk ∉ l.map (·.1) by rw [hl];exact nodup_take HNL.out.1 hnk)
        have HLT:=hid (show l.map (·.1) ++ [nk]=ns.take (k+1) by rw [hl,List.take_add_one,hnk];rfl)
        have HMM:=hid hM
        have HK:=hid hk
        clear hLP hr hnk hd hk hl hM
        go_wp2_with fail
        refine HSA.out.mono ?_
        rintro e3 w4 ⟨t,rfl,hct⟩
        obtain ⟨L4,lk4,st4,hr4,hg4⟩:=hct.out
        have hlp4:=HLPP.out.got (fun cs e=>by injection e with _ e;exact absurd e (by decide)) hg4
        obtain ⟨es,n4,hup,hlp5⟩:=hlp4.put (fun es n e=>by cases e) HW2.out h00 HFM.out nk t 0 HFR.out
        have HLP5:=hid hlp5
        have HR4:=hid hr4
        have HMM5:=hid (show ∀ x,(∃ z,(x,(if x=nk then t else M x),z)∈l ++ [(nk,t,(0:Int))])∨(x ∉ (l ++ [(nk,t,(0:Int))]).map (·.1)∧(if x=nk then t else M x)=nob) from fun x=>by
         by_cases hx:x=nk
         · subst hx
           exact .inl ⟨0,by simp⟩
         · rw [if_neg hx]
           rcases HMM.out x with ⟨z,h⟩ | ⟨h1,h2⟩
           · exact .inl ⟨z,List.mem_append_left _ h⟩
           · refine .inr ⟨?_,h2⟩
             rw [List.map_append,List.mem_append]
             rintro (h | h)
             · exact h1 h
             · simp at h;exact hx h)
        clear hct hr4 hg4 hlp4 hlp5 HSA HLPP hc kk1 HMM HFR
        go_wp2
        go_roundg (ns.length - (k+1))
        case rel=>exact ⟨k+1,_,_,st4,L4,lk4,by have:=HK.out;omega,by go_num,HLP5.out,by rw [List.map_append];exact HLT.out,HMM5.out,HR4.out⟩
        case measure=>have:=HK.out;omega
      · have hke:k=ns.length:=by omega
        have hlt2:¬ ((k:Int) < (ns.length:Int)):=by omega
        rw [hke,List.drop_length] at hr
        obtain ⟨hout,rfl⟩:=run_ret hr
        have HMY:=hid (show MY (.map (some mb)) M wr from ⟨fun W hW x=>by
         rcases hM x with ⟨z,h⟩ | ⟨h1,h2⟩
         · exact ⟨z,look_mn (hLP.m.below hW) x (M x) z (.inl h)⟩
         · exact ⟨0,look_mn (hLP.m.below hW) x (M x) 0 (.inr ⟨h1,h2,rfl⟩)⟩⟩)
        obtain ⟨g1,hg1,hc4⟩:=trow_item hLP.t (a:=0) rfl (j:=4) (u:=exV i.ex) rfl
        have hc5:wr.cell? ⟨g1,4,none⟩=some (encX e):=by
         have:=hc4
         simpa [HEX.out,exV] using this
        obtain ⟨g2,hg2,hc3⟩:=trow_item hLP.t (a:=0) rfl (j:=3) (u := .string i.typ) rfl
        cases hg1
        cases hg2
        have HLPP:=hid hLP
        have hty0:∀ W,Drawn wr W→Calls Tryz.prog 104 #[encX e, .map (some mb)] W fun e' w'=>e' = .returned (.string (typeX M e))∧Below wr.heap.size wr w':=fun W hW=>(typeOf_any HNO.out (.map (some mb)) M W (HMY.out.below hW.below)).mono fun e' w' ⟨h1,h2⟩=>⟨h1,below_seq hW.below h2⟩
        obtain ⟨ty,hty1⟩:∃ ty,ty=typeX M e:=⟨_,rfl⟩
        obtain ⟨it,hit⟩:∃ it,it=i.typ:=⟨_,rfl⟩
        rw [←hty1] at hty0 hout
        rw [←hit] at hc3 hout
        have HOUT:=hid hout
        have HTY0:=hid hty0
        clear hLP hr hk hl hM hc4 hty0 hty1 hit hout
        have hd5:wr.drew.cell? ⟨gb,4,none⟩=some (encX e):=hc5
        have hd3:wr.drew.cell? ⟨gb,3,none⟩=some (.string it):=hc3
        cases hcmp:(ty.toList == it.toList) with
        | true =>
         have HO2:=hid (show out = .ok (.s it,lk) by rw [HOUT.out,show eqB ty it=true from hcmp];rfl)
         go_wp2_with fail
         go_region_with (refine (HTY0.out _ (by exact ⟨rfl,rfl,rfl,rfl⟩)).mono ?_;rintro e3 w4 ⟨rfl,hb4⟩;have hc6:=cell_kept hb4 hc3;have hd6:w4.drew.cell? ⟨gb,3,none⟩=some (.string it):=hc6;have HB4:=hid hb4)
         all_goals
          go_wp2
          go_ret
          have hb5:Below wr.heap.size wr _:=HB4.out
          rw [HO2.out]
          exact (HLPP.out.s.below hb5).doneS (kind:=6) (by decide) (by decide) (by decide) _
        | false =>
         have HO2:=hid (show out = .ok (.s bad_,lk) by rw [HOUT.out,show eqB ty it=false from hcmp];rfl)
         go_wp2_with fail
         go_region_with (refine (HTY0.out _ (by exact ⟨rfl,rfl,rfl,rfl⟩)).mono ?_;rintro e3 w4 ⟨rfl,hb4⟩;have hc6:=cell_kept hb4 hc3;have hd6:w4.drew.cell? ⟨gb,3,none⟩=some (.string it):=hc6;have HB4:=hid hb4)
         all_goals
          go_wp2
          go_ret
          have hb5:Below wr.heap.size wr _:=HB4.out
          rw [HO2.out]
          exact (HLPP.out.s.below hb5).doneS (kind:=6) (by decide) (by decide) (by decide) _
theorem pubs_itOf:∀ its:List Itx,pubs (its.map itOf)=pubsX its
 | []=>rfl
 | i :: l=>by
  have ih:=pubs_itOf l
  unfold pubs pubsX at ih ⊢
  rw [List.map_cons,List.filter_cons,List.filter_cons]
  show (if (i.kind == 2)=true then _ else _:List It).map _=_
  cases i.kind == 2
  · simpa using ih
  · simp only [if_true,List.map_cons]
    rw [ih]
    rfl
theorem expL_itOf (its:List Itx):(expL (its.map itOf)).map (fun x=>(⟨x.toArray⟩:ByteArray))=expX its:=by
 unfold expL expX
 rw [pubs_itOf]
theorem toList_take_of {cs:Array Value} {xs:List Value} (h:∀ (j:Nat) x,xs[j]? = some x→cs[j]? = some x):cs.toList.take xs.length=xs:=by
 apply List.ext_getElem?
 intro j
 by_cases hj:j < xs.length
 · rw [List.getElem?_take_of_lt hj,Array.getElem?_toList,h j _ (List.getElem?_eq_getElem hj),List.getElem?_eq_getElem hj]
 · rw [List.getElem?_eq_none (by omega:xs.length≤j),List.getElem?_eq_none]
   rw [List.length_take]
   omega
theorem workExportsC {W0:World} {B bs lb:Nat} {fm:Value} {st:St V} {L:Lay} {w:World} {E:Eng V} (hE:Eng0 W0 E bs fm) (hW:WS W0 B bs lb fm st L w st L [] w) (h00:W0.heap.size≤w.heap.size) {f nm:ByteArray} {nc:Bool} {out:Out (V × List Lk)} {st':St V} (hr:run E nc (getR f fun its _ => .ret (.x (expX its))) [] st=some (out,st')) :
 Calls Tryz.prog 71 #[ptr bs,ptr lb, .agg #[.int .i64 4, .string f, .string nm]] w (WkPost B st L bs lb fm 4 out st' w):=by
 obtain ⟨its,fl,lk',st1,hm,hr⟩:=run_getR hr
 obtain ⟨rfl,rfl⟩:=run_ret hr
 have HB0:=hid (below_newK w (.cells #[.int .i64 4, .string f, .string nm] 99))
 have hA:=new_heap w (.cells #[.int .i64 4, .string f, .string nm] 99)
 have a1:=heap_cell (i:=1) hA
 obtain ⟨z,hz⟩:∃ z,faultV fl = .int .i64 z:=by cases fl <;> exact ⟨_,rfl⟩
 have htr:=treeW hE (hW.below HB0.out) (by simp) h00 hm
 rw [hz] at htr
 have HTR:=hid htr
 clear hE hW hm hr hA htr
 go_enter Tryz.func71,Tryz.ntmps71
 go_wp2_with fail
 refine HTR.out.mono ?_
 rintro e w1 ⟨ao,c,rfl,L',hg,hrow,s,hs,hits⟩
 have hn:=its_len hs hits
 have hex:=exports_ao (its.map itOf) (by simpa using hn) (fun i hi=>by
  obtain ⟨j,_,rfl⟩:=List.mem_map.1 hi
  exact exV_shape j) (.int .i64 z) ao c w1 (by simpa using trow_at hrow)
 rw [List.length_map] at hex
 have HX:=hid hex
 have HS:=hid hg.s
 have HSZ:=hid (And.intro hs hits)
 clear hg hrow hs hn hits hex HTR
 go_wp2_with fail
 refine HX.out.mono ?_
 rintro e w2 ⟨hb,c2,hh⟩
 have hd:∃ ao2,e = .returned (.slice ao2 (expX its).length c2)∧Row L'.own w2 9 (.slice ao2 (expX its).length c2) (expX its).length ((expX its).map .string):=by
  have hlen:(expX its).length=(expL (its.map itOf)).length:=by rw [←expL_itOf,List.length_map]
  rcases hh with ⟨h1,rfl⟩ | ⟨g,rfl,h2,⟨h3,cs,h4⟩,h5⟩
  · rw [h1] at hlen
    have h0:expX its = []:=List.eq_nil_of_length_eq_zero hlen
    rw [h0]
    exact ⟨none,rfl,none,c2,rfl,Nat.zero_le _,fun h=>absurd h (by simp)⟩
  · rw [←hlen] at h2 ⊢
    refine ⟨some ⟨g,0,none⟩,rfl,some ⟨g,0,none⟩,c2,rfl,h2,fun _=>⟨g,cs,rfl,HS.out.e.lt h3,h4,toList_take_of fun j x hx => ?_⟩⟩
    rw [List.getElem?_map] at hx
    obtain ⟨y,hy,rfl⟩:=Option.map_eq_some_iff.1 hx
    rw [←expL_itOf,List.getElem?_map] at hy
    obtain ⟨u,hu,rfl⟩:=Option.map_eq_some_iff.1 hy
    have:=h5 j u hu
    rw [heap_cell h4] at this
    exact this
 obtain ⟨ao2,rfl,hrow⟩:=hd
 have HD:=hid ((HS.out.below hb).done (kind:=4) (v := .x (expX its)) (vs:=[.slice ao2 (expX its).length c2]) ⟨⟨rfl,s,HSZ.out.1,by rw [←HSZ.out.2]⟩,_,rfl,hrow⟩)
 clear hb hh hrow
 obtain ⟨n,hn⟩:∃ n,n=(expX its).length:=⟨_,rfl⟩
 rw [←hn] at HD ⊢
 clear hn
 go_wp2
 go_ret
 exact HD.out
end Go.Proofs.YthibodlojlkppaaGreatDoor

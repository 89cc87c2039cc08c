/-
  Within a work: a map of meanings, and what else is a work's own. The work of Value. The work of Find. The program's typed: the type of an expr, its names' types given.
-/
import Derived.Test.YthibodlojlkppaaGreatDoorB19
import Derived.Test.YthibodlojlkppaaGreatDoorB21
import Derived.Test.YthibodlojlkppaaGreatDoorB26
set_option linter.unusedVariables false
set_option linter.unusedSectionVars false
set_option linter.unusedSimpArgs false
set_option maxRecDepth 100000
set_option maxHeartbeats 40000000

namespace Go.Proofs.YthibodlojlkppaaGreatDoor
open Go.RowKit
variable [DecidableEq K] [LawfulBEq Lk]
theorem ENGx.mapO {st:St V} {L:Lay} {lp:Option K} {bs:Nat} {fm q sm bg kv:Value} {arr:List K} {w:World} (h:ENGx st L lp bs fm q sm bg kv arr w) {mb n0:Nat} {es0:Array MapEntry} (hm:w.heap[mb]? = some (.map es0 n0)) (hno:¬ L.own mb) (es:Array MapEntry) (n:Nat):ENGx st L lp bs fm q sm bg kv arr (Ses.setO w mb (.map es n)):=by
 have hk:∀ (b:Nat) (cs:Array Value) (T:TypeId),w.heap[b]? = some (.cells cs T)→(Ses.setO w mb (.map es n)).heap[b]? = some (.cells cs T):=fun b cs T hb=>(Ses.setO_ne _ _ _ _ (fun e=>by rw [e,hm] at hb;cases hb)).trans hb
 have hsz:(Ses.setO w mb (.map es n)).heap.size=w.heap.size:=by simp [Ses.setO]
 have hmp:∀ (b:Nat) (es':Array MapEntry) (n':Nat),L.own b→w.heap[b]? = some (.map es' n')→(Ses.setO w mb (.map es n)).heap[b]? = some (.map es' n'):=fun b es' n' ho hb=>(Ses.setO_ne _ _ _ _ (fun (e:b=mb)=>hno (by rw [←e];exact ho))).trans hb
 refine ⟨⟨hk _ _ _ h.s,h.bo,fun b hb=>by rw [hsz];exact h.olt b hb,?_,fun f c hf=>⟨(h.srb f c hf).1,hk _ _ _ (h.srb f c hf).2⟩,h.sri,h.qm,?_,h.bg.keep fun b cs=>hk b cs _,h.kv.keep fun b cs=>hk b cs _,h.perm,h.nd,h.kl,h.ex,fun j m hj => ?_⟩,h.heap⟩
 · rcases h.sr with h1 | ⟨b,es',n',h1,h2,h3,h4⟩
   · exact .inl h1
   · exact .inr ⟨b,es',n',h1,h2,hmp _ _ _ h2 h3,h4⟩
 · rcases h.sm with h1 | ⟨b,es',n',h1,h2,h3,h4⟩
   · exact .inl h1
   · exact .inr ⟨b,es',n',h1,h2,hmp _ _ _ h2 h3,h4⟩
 · have hc:=h.cell j m hj
   obtain ⟨x,vs,a,b⟩:=hc.ex
   exact ⟨⟨x,vs,hk _ _ _ a,b.keepT fun b cs T _ _=>hk b cs T⟩,hc.own⟩
section
variable {W0:World} {B bs lb:Nat} {fm:Value} {st0 st st1:St V} {L0 L L1:Lay} {w0 w w1:World} {lk lk1:List Lk}
theorem WS.mapO (h:WS W0 B bs lb fm st0 L0 w0 st L lk w) {mb n0:Nat} {es0:Array MapEntry} (hm:w.heap[mb]? = some (.map es0 n0)) (hno:Mine L lb mb) (h0:w0.heap.size≤mb) (h00:W0.heap.size≤w0.heap.size) (hfm:fm ≠ .map (some mb)) (es:Array MapEntry) (n:Nat):WS W0 B bs lb fm st0 L0 w0 st L lk (Ses.setO w mb (.map es n)):=by
 have hk:∀ (b:Nat) (cs:Array Value) (T:TypeId),w.heap[b]? = some (.cells cs T)→(Ses.setO w mb (.map es n)).heap[b]? = some (.cells cs T):=fun b cs T hb=>(Ses.setO_ne _ _ _ _ (fun e=>by rw [e,hm] at hb;cases hb)).trans hb
 have hsz:(Ses.setO w mb (.map es n)).heap.size=w.heap.size:=by simp [Ses.setO]
 obtain ⟨hE,hK,hM,hl0,hb0,hN⟩:=h
 obtain ⟨q,sm,bg,kv,arr,hE⟩:=hE
 obtain ⟨lv,l1,l2,l3⟩:=hK.blk
 refine ⟨⟨q,sm,bg,kv,arr,hE.mapO hm hno.1 es n⟩,⟨⟨lv,hk _ _ _ l1,own_far l2 fun g hg => ?_,l3⟩,hK.nb,by rw [hsz];exact hK.ge,hK.ex,hK.len⟩,⟨hM.sm,hM.mp.imp id fun ⟨b,es',n',h1,h2,h3,h4⟩=>⟨b,es',n',h1,h2,(Ses.setO_ne _ _ _ _ (fun e=>hfm (by rw [h1,e]))).trans h3,h4⟩,⟨hM.low.os,hM.low.tape,hM.low.output,by rw [hsz];exact hM.low.size,fun k hk=>(Ses.setO_ne _ _ _ _ (by omega)).trans (hM.low.block k hk)⟩,hM.ow⟩,hl0,hb0,⟨hN.bk,hN.sb,hN.own,⟨hN.fr.os,hN.fr.tape,hN.fr.output,by rw [hsz];exact hN.fr.size,fun k hk hn=>(Ses.setO_ne _ _ _ _ (by omega)).trans (hN.fr.block k hk hn)⟩⟩⟩
 obtain ⟨cur,e3⟩:=own_cells l2 hg
 exact Ses.setO_ne _ _ _ _ fun e=>by rw [e,hm] at e3;cases e3
theorem FM.fresh {F:ByteArray→Option ByteArray} (h:FM W0 F L fm w) {mb:Nat} (hb:w.heap.size≤mb):fm ≠ .map (some mb):=fun e=>by
 rcases h.mp with ⟨h1,_⟩ | ⟨b,es,n,h1,h2,h3,h4⟩
 · rw [h1] at e;cases e
 · rw [h1] at e;cases e
   have:=heap_lt h3;omega
structure LP (W0:World) (B bs lb:Nat) (fm:Value) (st0:St V) (L0:Lay) (w0:World) (kb:Nat) (ko:Obj) (mb:Nat) (l:List (ByteArray × ByteArray × Int)) (na:Option Addr) (nc3:Nat) (ns:List ByteArray) (a2:Option Addr) (c2:Nat) (is:List Itx) (st:St V) (L:Lay) (lk:List Lk) (w:World):Prop where
 s:WS W0 B bs lb fm st0 L0 w0 st L lk w
 k:w.heap[kb]? = some ko
 km:Mine L lb kb
 m:MN l mb w
 mm:Mine L lb mb
 n:Row L.own w 9 (.slice na ns.length nc3) ns.length (ns.map .string)
 t:TRow L w a2 c2 is
variable {kb mb:Nat} {ko:Obj} {l:List (ByteArray × ByteArray × Int)} {na a2:Option Addr} {nc3 c2:Nat} {ns:List ByteArray} {is:List Itx}
theorem MN.below {w':World} (h:MN l mb w) (hb:Below w.heap.size w w'):MN l mb w':=by
 obtain ⟨es,n,h1,h2⟩:=h
 exact ⟨es,n,below_heap hb (heap_lt h1) h1,h2⟩
theorem LP.below {w':World} (h:LP W0 B bs lb fm st0 L0 w0 kb ko mb l na nc3 ns a2 c2 is st L lk w) (hb:Below w.heap.size w w'):LP W0 B bs lb fm st0 L0 w0 kb ko mb l na nc3 ns a2 c2 is st L lk w' :=
 ⟨h.s.below hb,below_heap hb (heap_lt h.k) h.k,h.km,h.m.below hb,h.mm,Row.below h.n hb,Row.below h.t hb⟩
theorem LP.got (h:LP W0 B bs lb fm st0 L0 w0 kb ko mb l na nc3 ns a2 c2 is st L lk w) (hko:∀ cs,ko ≠ .cells cs 169) (hg:Got W0 B bs lb fm st0 L0 w0 st L w st1 L1 lk1 w1):LP W0 B bs lb fm st0 L0 w0 kb ko mb l na nc3 ns a2 c2 is st1 L1 lk1 w1:=by
 obtain ⟨lv,hlb,_⟩:=h.s.k.blk
 obtain ⟨es,n,h1,h2⟩:=h.m
 have hm:=hg.n.mine h1 h.mm (fun cs e=>by cases e)
 have hk:=hg.n.mine h.k h.km hko
 exact ⟨hg.s,hk.1,hk.2,⟨es,n,hm.1,h2⟩,hm.2,Row.wnext h.n hg.n hlb (by decide) (by decide),Row.wnext h.t hg.n hlb (by decide) (by decide)⟩
theorem Row.mapO {O:Nat→Prop} {T:TypeId} {v:Value} {n:Nat} {xs:List Value} (h:Row O w T v n xs) {n0:Nat} {es0:Array MapEntry} (hm:w.heap[mb]? = some (.map es0 n0)) (o:Obj):Row O (Ses.setO w mb o) T v n xs :=
 h.keepT fun b cs hb=>(Ses.setO_ne _ _ _ _ (fun e=>by rw [e,hm] at hb;cases hb)).trans hb
theorem LP.put (h:LP W0 B bs lb fm st0 L0 w0 kb ko mb l na nc3 ns a2 c2 is st L lk w) (hko:∀ es n,ko ≠ .map es n) (h0:w0.heap.size≤mb) (h00:W0.heap.size≤w0.heap.size) (hfm:fm ≠ .map (some mb)) (f t:ByteArray) (z:Int) (hf:f ∉ l.map (·.1)) :
 ∃ es n,(Instr.mapUpdate 195 (.map (some mb)) (.string f) (.agg #[.string t, .int .i64 z])).run Tryz.prog w = .ok () (Ses.setO w mb (.map es n))∧LP W0 B bs lb fm st0 L0 w0 kb ko mb (l ++ [(f,t,z)]) na nc3 ns a2 c2 is st L lk (Ses.setO w mb (.map es n)):=by
 obtain ⟨es,n,h1,h2⟩:=store_mn h.m f t z hf
 obtain ⟨es0,n0,hm,_⟩:=h.m
 have hkm:kb≠mb:=fun e=>by
  have:=h.k
  rw [e,hm] at this
  injection this with this
  exact hko _ _ this.symm
 exact ⟨es,n,h1,h.s.mapO hm h.mm h0 h00 hfm es n,(Ses.setO_ne _ _ _ _ hkm).trans h.k,h.km,h2,h.mm,h.n.mapO hm _,h.t.mapO hm _⟩
end
theorem NTQ.item {W0:World} {B bs lb:Nat} {fm:Value} {st0 st st1:St V} {L0 L:Lay} {w0 w w2:World} {lk1:List Lk} {its:List Itx} {fl:Option Nat} {nm:ByteArray} {kb:Nat} {ko:Obj} {a2:Option Addr} {c2:Nat} (h:NTQ W0 B bs lb fm st0 L0 w0 st L w st1 lk1 its fl nm kb ko a2 c2 w2) {i:Itx} {l:List Itx} (hl:namedX nm its=i :: l) {e:Ex} (he:i.ex=some e):∃ gb,a2=some ⟨gb,0,none⟩∧w2.cell? ⟨gb,4,none⟩=some (encX e):=by
 obtain ⟨_,L',_,_,hT,_⟩:=h
 rw [hl] at hT
 obtain ⟨g,h1,h2⟩:=trow_item hT (a:=0) rfl (j:=4) (u:=encX e) (by simp [itCells,itOf,he,exV])
 exact ⟨g,h1,h2⟩
theorem workValueC {W0:World} {B bs lb:Nat} {fm:Value} {st:St V} {L:Lay} {w:World} {E:Eng V} (hE:Eng0 W0 E bs fm) (hpt:PT W0.heap.size W0) (heo:EOk W0) (hW:WS W0 B bs lb fm st L w st L [] w) (h00:W0.heap.size≤w.heap.size) {f nm:ByteArray} {nc:Bool} {out:Out (V × List Lk)} {stE:St V} (hr:run E nc (wValue f nm) [] st=some (out,stE)) :
 Calls Tryz.prog 76 #[ptr bs,ptr lb, .agg #[.int .i64 7, .string f, .string nm]] w (WkPost B st L bs lb fm 7 out stE w):=by
 obtain ⟨kd,lk1,st1,hm,hr⟩:=run_getS (by simp) hr
 have HB0:=hid (below_newK w (.cells #[.int .i64 7, .string f, .string nm] 99))
 have hA:=new_heap w (.cells #[.int .i64 7, .string f, .string nm] 99)
 have HTY:=hid (typeW hE (hW.below HB0.out) hm)
 have HM:=hid (hW.mine (Nat.le_refl w.heap.size))
 have ka1:=heap_cell (i:=1) hA
 have ka2:=heap_cell (i:=2) hA
 have HA:=hid hA
 have HR:=hid hr
 have HE:=hid hE
 have H0:=hid (And.intro hpt heo)
 clear hA hW hm hr hE hpt heo
 go_enter Tryz.func76,Tryz.ntmps76
 go_wp2_with fail
 refine HTY.out.mono ?_
 rintro e w1 ⟨rfl,L1,hg⟩
 have hA1:=hg.n.mine HA.out HM.out (fun cs e=>by injection e with _ e;exact absurd e (by decide))
 have kb1:=heap_cell (i:=1) hA1.1
 have kb2:=heap_cell (i:=2) hA1.1
 have HA1:=hid hA1
 have HG1:=hid (hg.lift HB0.out)
 clear hg hA1 HTY ka1 ka2
 cases hk:(eqB kd none_ || eqB kd bad_) with
 | true =>
  have hr:=HR.out
  rw [if_pos hk] at hr
  obtain ⟨hout,rfl⟩:=run_ret hr
  have HOUT:=hid hout
  clear hr HR hout
  cases h1:(kd.toList == [110,111,110,101]) with
  | true =>
   clear hk
   go_wp2
   go_ret
   rw [HOUT.out]
   exact HG1.out.s.doneS (kind:=7) (by decide) (by decide) (by decide) _
  | false =>
   have h2:(kd.toList == [98,97,100])=true:=by
    rw [show eqB kd none_=false from (eqB_lit kd [110,111,110,101]).trans h1] at hk
    exact (eqB_lit kd [98,97,100]).symm.trans (by simpa using hk)
   clear hk
   go_wp2
   go_ret
   rw [HOUT.out]
   exact HG1.out.s.doneS (kind:=7) (by decide) (by decide) (by decide) _
 | false =>
  have hr:=HR.out
  rw [if_neg (by rw [hk];decide)] at hr
  have h1:(kd.toList == [110,111,110,101])=false:=by
   have:=(Bool.or_eq_false_iff.1 hk).1
   exact (eqB_lit kd [110,111,110,101]).symm.trans this
  have h2:(kd.toList == [98,97,100])=false:=by
   have:=(Bool.or_eq_false_iff.1 hk).2
   exact (eqB_lit kd [98,97,100]).symm.trans this
  obtain ⟨its,fl,lk2,st2,hm,hr⟩:=run_getR hr
  obtain ⟨z,hz⟩:∃ z,faultV fl = .int .i64 z:=by cases fl <;> exact ⟨_,rfl⟩
  have HNT:=hid (namedTree HE.out HG1.out.s HG1.out.n.fr.size h00 (nm:=nm) hm hz (Below.refl _ _) HA1.out.1 HA1.out.2 (fun cs e=>by injection e with _ e;exact absurd e (by decide)))
  cases hl:namedX nm its with
  | nil =>
   simp [hl,run] at hr
  | cons i l =>
   cases hex:i.ex with
   | none=>simp [hl,hex,run] at hr
   | some e =>
    simp only [hl,hex] at hr
    obtain ⟨n,hn⟩:∃ n,n=(namedX nm its).length:=⟨_,rfl⟩
    rw [←hn] at HNT
    have hnp:0 < n:=by rw [hn,hl];simp
    have HLX:=hid (And.intro hl hex)
    have HR2:=hid hr
    have kd1:w1.drew.cell? ⟨w.heap.size,1,none⟩=_:=kb1
    have kd2:w1.drew.cell? ⟨w.heap.size,2,none⟩=_:=kb2
    clear hk hm hr HR hl hex hn
    go_wp2_with fail
    apply share4 (F:=fun (_:Option Addr) (_:Nat) (gb:Nat) (c2:Nat) (w2:World)=>NTQ W0 B bs lb fm st L w st1 L1 w1 st2 lk2 its fl nm w.heap.size (.cells #[.int .i64 7, .string f, .string nm] 99) (some ⟨gb,0,none⟩) c2 w2∧w2.cell? ⟨gb,4,none⟩=some (encX e))
    case main =>
     intro KEY
     go_region_with (first
      | (refine (HNT.out _ ?hd).mono ?_;(case hd=>exact ⟨rfl,rfl,rfl,rfl⟩);rintro e1 w4 ⟨ao,c,rfl,hk1,hn1⟩;have kb3:=heap_cell (i:=2) hk1;have kb4:w4.drew.cell? ⟨w.heap.size,2,none⟩=_:=kb3)
      | (refine (hn1.out _ ?hd).mono ?_;(case hd=>exact ⟨rfl,rfl,rfl,rfl⟩);rintro e1 w2 ⟨a2,c2,rfl,hq⟩;obtain ⟨gb,rfl,hc4⟩:=hq.out.item HLX.out.1 HLX.out.2;have hd4:w2.drew.cell? ⟨gb,4,none⟩=_:=hc4;have hqq:=hid (And.intro hq.out hc4)))
     all_goals
      exact KEY ao c gb c2 w2 hqq.out
    case key =>
     intro ao c gb c2 w2 hq
     obtain ⟨hq,hc4⟩:=hq
     obtain ⟨hk2,L2,hg,hkm,hrow,s,hs,hits⟩:=hq
     have HG2:=hid (show Got W0 B bs lb fm st L w st L w st2 L2 lk2 w2 from ⟨HG1.out.n.trans hg.n,hg.s⟩)
     obtain ⟨hno,hsz,hty⟩:=named_ok hs hits HLX.out.1.symm HLX.out.2
     have HK2:=hid hk2
     have HKM:=hid hkm
     have HRW:=hid hrow
     have HNO:=hid hno
     obtain ⟨ns,hns⟩:∃ ns,ns=namesX e []:=⟨_,rfl⟩
     have HNS:=hid (fun W=>(show Calls Tryz.prog 102 #[encX e] W fun e' w' => ∃ ao c,e' = .returned (.slice ao ns.length c)∧w'.ownsRow W.heap.size 9 1 (.slice ao ns.length c) ns.length (ns.map .string)∧Below W.heap.size W w' by rw [hns];exact names_any (e:=e) (by omega) W))
     have hr:=HR2.out
     rw [←hns] at hr
     have HNL:=hid (show ns.Nodup∧ns.length≤401 by
      rw [hns]
      exact ⟨namesX_nodup e [] (by simp),by have:=names_len e [];simp at this;omega⟩)
     have HR3:=hid hr
     have hmk:∀ W:World,(Instr.makeMap 195 none).run Tryz.prog W = .ok (.map (some W.heap.size)) (W.alloc (.map #[] 0)):=fun W=>@run_makeMap Tryz.prog 195 W
     clear hr HR2 hno hty hns hs hits hk2 hkm hrow hg HNT kb1 kb2 kd1 kd2 hc4 hnp
     go_wp2_with fail
     refine (HNS.out _).mono ?_
     rintro e2 w3 ⟨na,nc3,rfl,hown,hb3⟩
     have hb2:=below_newK w2 (.map #[] 0)
     have HS:=hid (HG2.out.below (below_seq hb2 hb3)).s
     have HNW:=hid (row_of_own (O:=L2.own) hown fun g hg=>HG2.out.s.e.lt (by simp at hg;omega))
     have HMB:=hid (HG2.out.s.mine (b:=w2.heap.size) (Nat.le_refl _))
     have HFM:=hid (HG2.out.s.m.fresh (mb:=w2.heap.size) (Nat.le_refl _))
     have HW2:=hid (show w.heap.size≤w2.heap.size from HG2.out.n.fr.size)
     have HLP:Hid (LP W0 B bs lb fm st L w w.heap.size (.cells #[.int .i64 7, .string f, .string nm] 99) w2.heap.size [] na nc3 ns (some ⟨gb,0,none⟩) c2 (namedX nm its) st2 L2 lk2 w3):=hid ⟨HS.out,below_heap (below_seq hb2 hb3) (heap_lt HK2.out) HK2.out,HKM.out,⟨#[],0,below_heap hb3 (heap_lt (new_heap w2 (.map #[] 0))) (new_heap w2 (.map #[] 0)),rfl,by simp⟩,HMB.out,HNW.out,Row.below HRW.out (below_seq hb2 hb3)⟩
     clear hown hb3 hb2 HS HNW HMB hmk hsz
     generalize w2.heap.size=mb at HLP HFM HW2 ⊢
     go_wp2
     go_loopg [10,45] ns.length (fun f' vf vi wr => ∃ (k:Nat) (fault:ByteArray) (l:List (ByteArray × ByteArray × Int)) (M:ByteArray→Int) (st':St V) (L':Lay) (lk:List Lk),k+f'=ns.length∧vf = .string fault∧vi = .int .i64 (k:Nat)∧LP W0 B bs lb fm st L w w.heap.size (.cells #[.int .i64 7, .string f, .string nm] 99) mb l na nc3 ns (some ⟨gb,0,none⟩) c2 (namedX nm its) st' L' lk wr∧l.map (·.1)=ns.take k∧(∀ x,(∃ t,(x,t,M x)∈l)∨(x ∉ l.map (·.1)∧M x=0))∧(∀ x,0≤M x∧M x≤999999999)∧run E nc (valuesP f (fun fault M => .ret (.s (valueEnd e kd fault M))) (ns.drop k) fault M) lk st'=some (out,stE))
     case atStart=>exact ⟨0,nob,[],fun _=>0,st2,L2,lk2,by omega,rfl,rfl,HLP.out,rfl,fun x => .inr ⟨by simp,rfl⟩,fun x=>by simp,HR3.out⟩
     case round =>
      clear HLP HR3
      obtain ⟨k,fault,l,M,st',L',lk,hk,rfl,rfl,hLP,hl,hM,hMb,hr⟩:=hrel
      have hkc:(0:Int)≤(k:Int):=by omega
      have hnl:=HNL.out.2
      by_cases hlt:k < ns.length
      · have hlt2:(k:Int) < (ns.length:Int):=by omega
        obtain ⟨nk,hnk⟩:∃ nk,ns[k]? = some nk:=⟨ns[k],List.getElem?_eq_getElem hlt⟩
        have hd:ns.drop k=nk :: ns.drop (k+1):=by
         rw [List.drop_eq_getElem_cons hlt]
         congr 1
         rw [List.getElem?_eq_getElem hlt] at hnk
         injection hnk
        rw [hd] at hr
        obtain ⟨g,lk5,st5,hm5,hr⟩:=run_getS (by simp) hr
        obtain ⟨gn,rfl,hc⟩:=row_strs hLP.n k nk hnk
        have HFI:=hid (findW HE.out hLP.s hm5)
        have kk1:=heap_cell (i:=1) hLP.k
        have HLPP:=hid hLP
        have HFR:=hid (show nk ∉ l.map (·.1) by rw [hl];exact nodup_take HNL.out.1 hnk)
        have HLT:=hid (show l.map (·.1) ++ [nk]=ns.take (k+1) by rw [hl,List.take_add_one,hnk];rfl)
        have HMM:=hid hM
        have HMB:=hid hMb
        have HK:=hid hk
        have HR5:=hid hr
        clear hLP hr hnk hd hk hl hM hMb hm5
        go_wp2_with fail
        refine HFI.out.mono ?_
        rintro e3 w4 ⟨rfl,L5,hg5⟩
        have HLP5:=hid (HLPP.out.got (fun cs e=>by injection e with _ e;exact absurd e (by decide)) hg5)
        clear hg5 HFI HLPP hc kk1
        rcases run_getV HR5.out with ⟨v,lk6,st6,hm6,hr6⟩ | ⟨cc,hm6,hout,hnc⟩
        · have hvo:valOk v=true:=by
           cases hvo:valOk v with
           | true=>rfl
           | false=>rw [hvo] at hr6;simp [run] at hr6
          rw [if_pos hvo] at hr6
          have HVA:=hid (valueW HE.out HLP5.out.s hm6)
          have HR6:=hid hr6
          have HVO:=hid hvo
          clear hm6 hr6 hvo HR5
          go_wp2_with fail
          refine HVA.out.mono ?_
          rintro e4 w5 ⟨rfl,L6,hg6⟩
          have HLP6:=hid (HLP5.out.got (fun cs e=>by injection e with _ e;exact absurd e (by decide)) hg6)
          clear hg6 HVA HLP5
          go_wp2_with fail
          refine (worse_any fault v w5).mono ?_
          rintro e5 w6 ⟨rfl,rfl⟩
          have heo6:EOk w6:=by
           obtain ⟨ev,h1,h2⟩:=H0.out.2
           exact ⟨ev,cell_kept HLP6.out.s.m.low h1,h2⟩
          have HRW6:=hid (readWorth_any HVO.out w6 heo6)
          clear heo6
          have hbd:=readW_ok v
          obtain ⟨rv,hrv⟩:∃ rv,rv=readW v:=⟨_,rfl⟩
          have hr7:=HR6.out
          rw [←hrv] at HRW6 hbd hr7
          have HR7:=hid hr7
          have HBD:=hid hbd
          clear hrv hr7 HR6 hbd
          go_wp2_with fail
          refine HRW6.out.mono ?_
          rintro e6 w7 ⟨rfl,hb7⟩
          obtain ⟨es,n4,hup,hlp7⟩:=(HLP6.out.below hb7).put (fun es n e=>by cases e) HW2.out h00 HFM.out nk nob rv HFR.out
          have HLP7:=hid hlp7
          have HMM7:=hid (show ∀ x,(∃ t,(x,t,(if x=nk then rv else M x))∈l ++ [(nk,nob,rv)])∨(x ∉ (l ++ [(nk,nob,rv)]).map (·.1)∧(if x=nk then rv else M x)=0) from fun x=>by
           by_cases hx:x=nk
           · subst hx
             exact .inl ⟨nob,by simp⟩
           · rw [if_neg hx]
             rcases HMM.out x with ⟨z,h⟩ | ⟨h1,h2⟩
             · exact .inl ⟨z,List.mem_append_left _ h⟩
             · refine .inr ⟨?_,h2⟩
               rw [List.map_append,List.mem_append]
               rintro (h | h)
               · exact h1 h
               · simp at h;exact hx h)
          have HMB7:=hid (show ∀ x,0≤(if x=nk then rv else M x)∧(if x=nk then rv else M x)≤999999999 from fun x=>by
           by_cases hx:x=nk
           · rw [if_pos hx];exact HBD.out
           · rw [if_neg hx];exact HMB.out x)
          clear hlp7 hb7 HLP6 HRW6 HMM HMB HFR
          go_wp2
          go_roundg (ns.length - (k+1))
          case rel=>exact ⟨k+1,_,_,_,st6,L6,lk6,by have:=HK.out;omega,rfl,by go_num,HLP7.out,by rw [List.map_append];exact HLT.out,HMM7.out,HMB7.out,HR7.out⟩
          case measure=>have:=HK.out;omega
        · have hvc:=valueWc HE.out HLP5.out.s hm6 7
          have HVC:=hid hvc
          have HOUT:=hid hout
          clear hm6 hvc hout HR5 HLP5
          unfold cycP at HVC
          go_wp2_with fail
          refine HVC.out.mono ?_
          rintro e4 w5 ⟨rfl,hp⟩
          go_wp2_with fail
          refine ⟨rfl,?_⟩
          rw [HOUT.out]
          exact hp
      · have hke:k=ns.length:=by omega
        have hlt2:¬ ((k:Int) < (ns.length:Int)):=by omega
        rw [hke,List.drop_length] at hr
        obtain ⟨hout,rfl⟩:=run_ret hr
        have HMW:=hid (show MW (.map (some mb)) M wr from ⟨fun W hW x=>by
         rcases hM x with ⟨z,h⟩ | ⟨h1,h2⟩
         · exact ⟨z,look_mn (hLP.m.below hW) x z (M x) (.inl h)⟩
         · exact ⟨nob,look_mn (hLP.m.below hW) x nob (M x) (.inr ⟨h1,rfl,h2⟩)⟩,fun x=>(hMb x).1,fun x=>(hMb x).2⟩)
        obtain ⟨g1,hg1,hc4⟩:=trow_item hLP.t (a:=0) (show (namedX nm its)[0]? = some i by rw [HLX.out.1];rfl) (j:=4) (u:=exV i.ex) rfl
        have hc5:wr.cell? ⟨g1,4,none⟩=some (encX e):=by
         have:=hc4
         simpa [HLX.out.2,exV] using this
        cases hg1
        have hd5:wr.drew.cell? ⟨gb,4,none⟩=some (encX e):=hc5
        have HLPP:=hid hLP
        have HRK:=hid (reckon_any HNO.out (.map (some mb)) M wr HMW.out)
        cases hf0:(fault.toList == []) with
        | false =>
         have HOUT:=hid (show out = .ok (.s fault,lk) by rw [hout];simp only [valueEnd];rw [if_neg (by rw [show eqB fault nob=false from (eqB_lit fault []).trans hf0];exact Bool.noConfusion)])
         clear hLP hr hk hl hM hMb hc4 hout
         go_wp2
         go_ret
         rw [HOUT.out]
         exact HLPP.out.s.doneS (kind:=7) (by decide) (by decide) (by decide) _
        | true =>
         have hf1:eqB fault nob=true:=(eqB_lit fault []).trans hf0
         have hbd:=reckX_ok (fun x=>hMb x) e HNO.out
         have HPT:=hid (fun w' (h':Below wr.heap.size wr w')=>H0.out.1 w' (below_seq hLP.s.m.low h'))
         cases hx:reckX M e with
         | none =>
          have HOUT:=hid (show out = .ok (.s over_,lk) by rw [hout];simp only [valueEnd];rw [if_pos hf1,hx])
          have HRK2:=HRK.out
          rw [hx] at HRK2
          simp only [Option.getD_none,Option.isSome_none] at HRK2
          have HRK3:=hid HRK2
          clear hLP hr hk hl hM hMb hc4 hout hbd hf1 HRK HRK2 HPT hx
          go_wp2_with fail
          refine HRK3.out.mono ?_
          rintro e3 w4 ⟨rfl,hb4⟩
          have HB4:=hid hb4
          clear hb4
          go_wp2
          go_ret
          rw [HOUT.out]
          exact (HLPP.out.s.below HB4.out).doneS (kind:=7) (by decide) (by decide) (by decide) _
         | some n =>
          have HOUT:=hid (show out = .ok (.s (writeW kd n),lk) by rw [hout];simp only [valueEnd];rw [if_pos hf1,hx])
          have HRK2:=HRK.out
          rw [hx] at HRK2
          simp only [Option.getD_some,Option.isSome_some] at HRK2
          have HRK3:=hid HRK2
          have hb:=hbd n hx
          clear hLP hr hk hl hM hMb hc4 hout hbd hf1 HRK HRK2 hx
          go_wp2_with fail
          refine HRK3.out.mono ?_
          rintro e3 w4 ⟨rfl,hb4⟩
          have HB4:=hid hb4
          have HWR:=hid (writeWorth_any kd n hb.1 hb.2 w4 (fun w' h'=>HPT.out w' (below_seq hb4 h')))
          clear hb4
          go_wp2_with fail
          refine HWR.out.mono ?_
          rintro e4 w5 ⟨rfl,hb5⟩
          have HB5:=hid hb5
          clear hb5
          go_wp2
          go_ret
          rw [HOUT.out]
          exact (HLPP.out.s.below (below_seq HB4.out HB5.out)).doneS (kind:=7) (by decide) (by decide) (by decide) _
theorem workFindC {W0:World} {B bs lb:Nat} {fm:Value} {st:St V} {L:Lay} {w:World} {E:Eng V} (hE:Eng0 W0 E bs fm) (hW:WS W0 B bs lb fm st L w st L [] w) (h00:W0.heap.size≤w.heap.size) {f nm:ByteArray} {nc:Bool} {out:Out (V × List Lk)} {st':St V} (hr:run E nc (wFind f nm) [] st=some (out,st')) :
 Calls Tryz.prog 74 #[ptr bs,ptr lb, .agg #[.int .i64 5, .string f, .string nm]] w (WkPost B st L bs lb fm 5 out st' w):=by
 obtain ⟨its,fl,lk1,st1,hm,hr⟩:=run_getR hr
 have HB0:=hid (below_newK w (.cells #[.int .i64 5, .string f, .string nm] 99))
 have HTR:=hid (treeW hE (hW.below HB0.out) HB0.out.size h00 hm)
 have hA:=new_heap w (.cells #[.int .i64 5, .string f, .string nm] 99)
 have HM:=hid (hW.mine (Nat.le_refl w.heap.size))
 have ka1:=heap_cell (i:=1) hA
 have ka2:=heap_cell (i:=2) hA
 have HA:=hid hA
 have HR:=hid hr
 have HE:=hid hE
 clear hA hW hm hr hE
 go_enter Tryz.func74,Tryz.ntmps74
 go_wp2_with fail
 refine HTR.out.mono ?_
 rintro e w1 ⟨ao,c,rfl,L1,hg,hrow,s,hs,hits⟩
 have hA1:=(hg.n.mine HA.out HM.out (fun cs e=>by injection e with _ e;exact absurd e (by decide))).1
 have hlen:=its_len hs hits
 obtain ⟨z,hz⟩:∃ z,faultV fl = .int .i64 z:=by cases fl <;> exact ⟨_,rfl⟩
 rw [hz]
 have hT:=new_heap w1 (.cells #[.slice ao its.length c, .int .i64 z] 87)
 have HB1:=hid (below_newK w1 (.cells #[.slice ao its.length c, .int .i64 z] 87))
 have HS1:=hid (hg.s.below HB1.out)
 have HRW:=hid (Row.below hrow HB1.out)
 have HNA:=hid (namedT HRW.out hlen nm (.int .i64 z))
 have HLEN:=hid hlen
 clear hg hrow hits hlen hz hs HTR
 have y2:=heap_cell (i:=2) (below_heap HB1.out (heap_lt hA1) hA1)
 have hA2:=below_heap HB1.out (heap_lt hA1) hA1
 have t0:=heap_cell (i:=0) hT
 have t1:=heap_cell (i:=1) hT
 have HA2:=hid hA2
 have HT2:=hid hT
 clear hA1 hA2 hT
 go_wp2_with fail
 refine (HNA.out _ (Below.refl _ _)).mono ?_
 rintro e w3 ⟨a2,c2,rfl,_,hb3⟩
 have HB3:=hid hb3
 have HS3:=hid (HS1.out.below hb3)
 have HR3:=hid (Row.below HRW.out hb3)
 have b1:=heap_cell (i:=1) (below_heap hb3 (heap_lt HA2.out) HA2.out)
 have b2:=heap_cell (i:=2) (below_heap hb3 (heap_lt HA2.out) HA2.out)
 have u0:=heap_cell (i:=0) (below_heap hb3 (heap_lt HT2.out) HT2.out)
 have u1:=heap_cell (i:=1) (below_heap hb3 (heap_lt HT2.out) HT2.out)
 clear hb3 t0 t1 y2 HNA ka1 ka2
 generalize w1.heap.size=tb at u0 u1 ⊢
 obtain ⟨l,hl⟩:∃ l,l=namedX nm its:=⟨_,rfl⟩
 have hr:=HR.out
 rw [←hl] at hr ⊢
 cases l with
 | nil =>
  have HFU:=hid (findUsedC (fl := .int .i64 z) HE.out HS3.out HR3.out HLEN.out hr)
  clear hr HR hl
  simp only [List.length_nil]
  go_wp2_with fail
  refine HFU.out.mono ?_
  rintro e w4 ⟨⟨b,rfl⟩,hp⟩
  go_wp2
  go_ret
  exact hp.out
 | cons i l =>
  cases l with
  | nil =>
   obtain ⟨rfl,rfl⟩:=run_ret hr
   clear hr HR hl
   simp only [List.length_cons,List.length_nil]
   go_wp2
   go_ret
   exact HS3.out.doneS (kind:=5) (by decide) (by decide) (by decide) _
  | cons j l =>
   obtain ⟨rfl,rfl⟩:=run_ret hr
   simp only [List.length_cons]
   obtain ⟨n,hn⟩:∃ n,n=l.length+1+1:=⟨_,rfl⟩
   rw [←hn]
   have h0:((n:Int) == 0)=false:=by rw [beq_eq_false_iff_ne];omega
   have h1:((n:Int) == 1)=false:=by rw [beq_eq_false_iff_ne];omega
   clear hr HR hl hn
   go_wp2
   go_ret
   exact HS3.out.doneS (kind:=5) (by decide) (by decide) (by decide) _
structure MY (mv:Value) (M:ByteArray→ByteArray) (w:World):Prop where
 look:∀ W,Below w.heap.size w W→∀ nm,∃ z,(Instr.lookup 195 mv (.string nm) false).run Tryz.prog W = .ok (.agg #[.string (M nm), .int .i64 z]) W
theorem MY.below {mv:Value} {M:ByteArray→ByteArray} {w w':World} (h:MY mv M w) (hb:Below w.heap.size w w'):MY mv M w':=⟨fun W hW=>h.look W (below_seq hb hW)⟩
def Typeds (x:Value) (r:(ByteArray→ByteArray)→ByteArray):Prop :=
 ∃ (T:TypeId) (v u:Value) (F:FuncId),x = .iface T v∧(∀ w,(method 414 T v "almanac/lang.typed").run Tryz.prog w = .ok (F,u) w)∧(∀ args w,(callFunc F args).run Tryz.prog w = .ok (.enter F args) w)∧Tryz.prog.inits.idxOf? F=none ∧
  ∀ (mv:Value) (M:ByteArray→ByteArray) (w:World),MY mv M w →
   Calls Tryz.prog F #[u,mv] w fun e w'=>e = .returned (.string (r M))∧Below w.heap.size w w'
theorem tmNumber (n:Int) (w:World):(method 414 197 (.int .i64 n) "almanac/lang.typed").run Tryz.prog w = .ok (246,(.int .i64 n)) w:=by kernel_rfl
theorem teNumber (args:Array Value) (w:World):(callFunc 246 args).run Tryz.prog w = .ok (.enter 246 args) w:=by kernel_rfl
theorem tmTruth (n:Bool) (w:World):(method 414 290 (.bool n) "almanac/lang.typed").run Tryz.prog w = .ok (259,(.bool n)) w:=by kernel_rfl
theorem teTruth (args:Array Value) (w:World):(callFunc 259 args).run Tryz.prog w = .ok (.enter 259 args) w:=by kernel_rfl
theorem tmName (n:ByteArray) (w:World):(method 414 291 (.string n) "almanac/lang.typed").run Tryz.prog w = .ok (263,(.string n)) w:=by kernel_rfl
theorem teName (args:Array Value) (w:World):(callFunc 263 args).run Tryz.prog w = .ok (.enter 263 args) w:=by kernel_rfl
theorem tmPair (n:Value) (w:World):(method 414 271 n "almanac/lang.typed").run Tryz.prog w = .ok (252,n) w:=by kernel_rfl
theorem tePair (args:Array Value) (w:World):(callFunc 252 args).run Tryz.prog w = .ok (.enter 252 args) w:=by kernel_rfl
theorem tmChoice (n:Value) (w:World):(method 414 293 n "almanac/lang.typed").run Tryz.prog w = .ok (267,n) w:=by kernel_rfl
theorem teChoice (args:Array Value) (w:World):(callFunc 267 args).run Tryz.prog w = .ok (.enter 267 args) w:=by kernel_rfl
theorem typeds_number (n:Int):Typeds (.iface 197 (.int .i64 n)) (fun _=>int_):=by
 refine ⟨_,_,_,_,rfl,tmNumber _,teNumber,by kernel_rfl,fun mv M w hM => ?_⟩
 go_enter Tryz.func246,Tryz.ntmps246
 go_wp2
 go_ret
 exact ⟨rfl,Below.refl _ _⟩
theorem typeds_truth (b:Bool):Typeds (.iface 290 (.bool b)) (fun _=>bool_):=by
 refine ⟨_,_,_,_,rfl,tmTruth _,teTruth,by kernel_rfl,fun mv M w hM => ?_⟩
 go_enter Tryz.func259,Tryz.ntmps259
 go_wp2
 go_ret
 exact ⟨rfl,Below.refl _ _⟩
theorem fieldTy (a:ByteArray) (b:Int) (w:World):(Instr.field 199 (.agg #[.string a, .int .i64 b]) 0).run Tryz.prog w = .ok (.string a) w:=by kernel_rfl
theorem typeds_name (t:ByteArray):Typeds (.iface 291 (.string t)) (fun M=>M t):=by
 refine ⟨_,_,_,_,rfl,tmName _,teName,by kernel_rfl,fun mv M w hM => ?_⟩
 obtain ⟨z,h0⟩:=hM.look w (Below.refl _ _) t
 have hfd:=fieldTy (M t) z
 go_enter Tryz.func263,Tryz.ntmps263
 go_wp2
 go_ret
 exact ⟨rfl,Below.refl _ _⟩
theorem onlyIf_any (b:Bool) (k:ByteArray) (w:World):Calls Tryz.prog 255 #[.bool b, .string k] w fun e w'=>e = .returned (.string (onlyX b k))∧w'=w:=by
 cases b
 all_goals
  go_enter Tryz.func255,Tryz.ntmps255
  go_wp2
  go_ret
  exact ⟨rfl,rfl⟩
def pairY (op:List UInt8) (l r:(ByteArray→ByteArray)→ByteArray):(ByteArray→ByteArray)→ByteArray:=fun M =>
 if eqB (l M) (r M) then (if op = [61,61] then onlyX (!eqB (l M) nob) bool_ else onlyX (eqB (l M) int_) int_) else nob
theorem typeds_pair {op:List UInt8} (hop:op = [43]∨op = [42]∨op = [61,61]) {l r:Value} {f g:(ByteArray→ByteArray)→ByteArray} (hl:Typeds l f) (hr:Typeds r g):Typeds (mkPair ⟨⟨op⟩⟩ l r) (pairY op f g):=by
 obtain ⟨T1,v1,u1,F1,rfl,m1,e1,_,c1⟩:=hl
 obtain ⟨T2,v2,u2,F2,rfl,m2,e2,_,c2⟩:=hr
 refine ⟨_,_,_,_,rfl,tmPair _,tePair,by kernel_rfl,fun mv M w hM => ?_⟩
 have hbl:=below_new w (.cells #[.string ⟨⟨op⟩⟩, .iface T1 v1, .iface T2 v2] 271)
 have HBL:=hid hbl
 have hN:=new_heap w (.cells #[.string ⟨⟨op⟩⟩, .iface T1 v1, .iface T2 v2] 271)
 have HN:=hid hN
 have HC1:Hid (∀ W,Drawn (w.alloc (.cells #[.string ⟨⟨op⟩⟩, .iface T1 v1, .iface T2 v2] 271)) W→Calls Tryz.prog F1 #[u1,mv] W fun e w1=>e = .returned (.string (f M))∧w1.heap[w.heap.size]? = some (.cells #[.string ⟨⟨op⟩⟩, .iface T1 v1, .iface T2 v2] 271)∧Hid (∀ W2,Drawn w1 W2→Calls Tryz.prog F2 #[u2,mv] W2 fun e w2=>e = .returned (.string (g M))∧w2.heap[w.heap.size]? = some (.cells #[.string ⟨⟨op⟩⟩, .iface T1 v1, .iface T2 v2] 271)∧Hid (Below w.heap.size w w2))):=hid fun W hW=>by
  have hb1:=below_seq hbl hW.below
  refine (c1 mv M W (hM.below hb1)).mono ?_
  rintro e w1 ⟨rfl,h1⟩
  have hp1:=below_heap h1 (heap_lt (below_heap hW.below (heap_lt hN) hN)) (below_heap hW.below (heap_lt hN) hN)
  refine ⟨rfl,hp1,hid fun W2 hW2 => ?_⟩
  have hb2:=below_seq (below_seq hb1 h1) hW2.below
  refine (c2 mv M W2 (hM.below hb2)).mono ?_
  rintro e w2 ⟨rfl,h2⟩
  exact ⟨rfl,below_heap h2 (heap_lt (below_heap hW2.below (heap_lt hp1) hp1)) (below_heap hW2.below (heap_lt hp1) hp1),hid (below_seq hb2 h2)⟩
 have k0:=heap_cell (i:=0) hN
 have k1:=heap_cell (i:=1) hN
 have k2:=heap_cell (i:=2) hN
 have k1':(w.alloc (.cells #[.string ⟨⟨op⟩⟩, .iface T1 v1, .iface T2 v2] 271)).drew.cell? ⟨w.heap.size,1,none⟩=_:=k1
 have k2':(w.alloc (.cells #[.string ⟨⟨op⟩⟩, .iface T1 v1, .iface T2 v2] 271)).drew.cell? ⟨w.heap.size,2,none⟩=_:=k2
 clear c1 c2 hM hbl hN HN HBL
 obtain ⟨a,ha⟩:∃ a,a=f M:=⟨_,rfl⟩
 obtain ⟨b,hb⟩:∃ b,b=g M:=⟨_,rfl⟩
 rw [←ha,←hb] at HC1
 have HP:=hid (show pairY op f g M=if eqB a b then (if op = [61,61] then onlyX (!eqB a nob) bool_ else onlyX (eqB a int_) int_) else nob by rw [ha,hb];rfl)
 clear ha hb
 go_enter Tryz.func252,Tryz.ntmps252
 go_wp2_with fail
 go_region_with (first
  | (refine (HC1.out _ ?hd).mono ?_;(case hd=>exact ⟨rfl,rfl,rfl,rfl⟩);rintro e w1 ⟨rfl,hN1,hk1⟩;have j0:=heap_cell (i:=0) hN1;have j1:=heap_cell (i:=1) hN1;have j2:=heap_cell (i:=2) hN1;have j1':w1.drew.cell? ⟨w.heap.size,1,none⟩=_:=j1;have j2':w1.drew.cell? ⟨w.heap.size,2,none⟩=_:=j2)
  | (refine (hk1.out _ ?hd).mono ?_;(case hd=>exact ⟨rfl,rfl,rfl,rfl⟩);rintro e w2 ⟨rfl,hN2,hk2⟩;have i0:=heap_cell (i:=0) hN2;have HBW2:=hid hk2.out;clear hN2 hk2))
 all_goals
  cases h1:(a.toList == b.toList) with
  | false =>
   have HP2:=hid (HP.out.trans (if_neg (by rw [show eqB a b=false from h1];decide)))
   go_wp2
   go_ret
   rw [HP2.out]
   exact ⟨rfl,HBW2.out⟩
  | true =>
   have HP2:=hid (HP.out.trans (if_pos h1))
   rcases hop with rfl | rfl | rfl
   · have HP3:=hid (HP2.out.trans (if_neg (by decide)))
     obtain ⟨c,hc⟩:∃ c,c=eqB a int_:=⟨_,rfl⟩
     have hc2:(a.toList == [105,110,116])=c:=(eqB_lit a [105,110,116]).symm.trans hc.symm
     rw [←hc] at HP3
     clear hc
     go_wp2_with fail
     refine (onlyIf_any c int_ w2).mono ?_
     rintro e w3 ⟨rfl,rfl⟩
     go_wp2
     go_ret
     rw [HP3.out]
     exact ⟨rfl,HBW2.out⟩
   · have HP3:=hid (HP2.out.trans (if_neg (by decide)))
     obtain ⟨c,hc⟩:∃ c,c=eqB a int_:=⟨_,rfl⟩
     have hc2:(a.toList == [105,110,116])=c:=(eqB_lit a [105,110,116]).symm.trans hc.symm
     rw [←hc] at HP3
     clear hc
     go_wp2_with fail
     refine (onlyIf_any c int_ w2).mono ?_
     rintro e w3 ⟨rfl,rfl⟩
     go_wp2
     go_ret
     rw [HP3.out]
     exact ⟨rfl,HBW2.out⟩
   · have HP3:=hid (HP2.out.trans (if_pos rfl))
     obtain ⟨c,hc⟩:∃ c,c=eqB a nob:=⟨_,rfl⟩
     have hc2:(a.toList == [])=c:=(eqB_lit a []).symm.trans hc.symm
     rw [←hc] at HP3
     clear hc
     go_wp2_with fail
     refine (onlyIf_any (!c) bool_ w2).mono ?_
     rintro e w3 ⟨rfl,rfl⟩
     go_wp2
     go_ret
     rw [HP3.out]
     exact ⟨rfl,HBW2.out⟩
def choiceY (c y n:(ByteArray→ByteArray)→ByteArray):(ByteArray→ByteArray)→ByteArray:=fun M=>onlyX (eqB (c M) bool_ && eqB (n M) (y M)) (y M)
theorem typeds_choice {c y n:Value} {f g k:(ByteArray→ByteArray)→ByteArray} (hc:Typeds c f) (hy:Typeds y g) (hn:Typeds n k):Typeds (mkChoice c y n) (choiceY f g k):=by
 obtain ⟨T1,v1,u1,F1,rfl,m1,e1,_,c1⟩:=hc
 obtain ⟨T2,v2,u2,F2,rfl,m2,e2,_,c2⟩:=hy
 obtain ⟨T3,v3,u3,F3,rfl,m3,e3,_,c3⟩:=hn
 refine ⟨_,_,_,_,rfl,tmChoice _,teChoice,by kernel_rfl,fun mv M w hM => ?_⟩
 have hbl:=below_new w (.cells #[.iface T1 v1, .iface T2 v2, .iface T3 v3] 293)
 have HBL:=hid hbl
 have hN:=new_heap w (.cells #[.iface T1 v1, .iface T2 v2, .iface T3 v3] 293)
 have HN:=hid hN
 have HC2:=hid (c2 mv M _ (hM.below hbl))
 have HC3:=hid (fun w' hb=>c3 mv M w' (hM.below (below_seq hbl hb)))
 have HC1:=hid (fun w' hb=>c1 mv M w' (hM.below (below_seq hbl hb)))
 have k0:=heap_cell (i:=0) hN
 have k1:=heap_cell (i:=1) hN
 have k2:=heap_cell (i:=2) hN
 clear c1 c2 c3 hM hbl hN
 go_enter Tryz.func267,Tryz.ntmps267
 go_wp2_with fail
 refine HC2.out.mono ?_
 rintro e w1 ⟨rfl,hb1⟩
 have hN1:=below_heap hb1 (heap_lt HN.out) HN.out
 have j0:=heap_cell (i:=0) hN1
 have j1:=heap_cell (i:=1) hN1
 have j2:=heap_cell (i:=2) hN1
 have HN1:=hid hN1
 have HB1:=hid hb1
 clear hN1 hb1 k0 k1 k2 HC2
 obtain ⟨b,hb⟩:∃ b,b=g M:=⟨_,rfl⟩
 rw [←hb]
 have HGZ:=hid hb
 clear hb
 go_wp2_with fail
 refine (HC1.out w1 HB1.out).mono ?_
 rintro e w2 ⟨rfl,hb2⟩
 have hN2:=below_heap hb2 (heap_lt HN1.out) HN1.out
 have i0:=heap_cell (i:=0) hN2
 have i1:=heap_cell (i:=1) hN2
 have i2:=heap_cell (i:=2) hN2
 have HB2:=hid (below_seq HB1.out hb2)
 clear hN2 hb2 j0 j1 j2 HC1
 obtain ⟨a,ha⟩:∃ a,a=f M:=⟨_,rfl⟩
 rw [←ha]
 have HFZ:=hid ha
 clear ha
 cases h1:(a.toList == [98,111,111,108]) with
 | false =>
  have HP:=hid (show choiceY f g k M=onlyX false b by rw [choiceY,←HFZ.out,show eqB a bool_=false from (eqB_lit a [98,111,111,108]).trans h1,HGZ.out];rfl)
  go_wp2_with fail
  refine (onlyIf_any false b w2).mono ?_
  rintro e w3 ⟨rfl,rfl⟩
  go_wp2
  go_ret
  rw [HP.out]
  exact ⟨rfl,below_seq HBL.out HB2.out⟩
 | true =>
  go_wp2_with fail
  refine (HC3.out w2 HB2.out).mono ?_
  rintro e w3 ⟨rfl,hb3⟩
  have HB3:=hid (below_seq HB2.out hb3)
  clear hb3 i0 i1 i2 HC3
  obtain ⟨d,hd⟩:∃ d,d=k M:=⟨_,rfl⟩
  rw [←hd]
  have HKZ:=hid hd
  clear hd
  obtain ⟨q,hq⟩:∃ q,q=eqB d b:=⟨_,rfl⟩
  have hq2:(d.toList == b.toList)=q:=hq.symm
  have HP:=hid (show choiceY f g k M=onlyX q b by rw [choiceY,←HFZ.out,show eqB a bool_=true from (eqB_lit a [98,111,111,108]).trans h1,←HGZ.out,←HKZ.out,←hq];rfl)
  clear hq
  go_wp2_with fail
  refine (onlyIf_any q b w3).mono ?_
  rintro e w4 ⟨rfl,rfl⟩
  go_wp2
  go_ret
  rw [HP.out]
  exact ⟨rfl,below_seq HBL.out HB3.out⟩
theorem typeds_enc:∀ e:Ex,numsOk e→Typeds (encX e) (fun M=>typeX M e)
 | ⟨.inl n,_⟩,_=>typeds_number n
 | ⟨.inr (.inl b),_⟩,_=>typeds_truth b
 | ⟨.inr (.inr (.inl t)),_⟩,_=>typeds_name t
 | ⟨.inr (.inr (.inr (.inl op))),s'⟩,h=>typeds_pair h.1 (typeds_enc (s' false) h.2.1) (typeds_enc (s' true) h.2.2)
 | ⟨.inr (.inr (.inr (.inr _))),s'⟩,h=>typeds_choice (typeds_enc (s' none) h.1) (typeds_enc (s' (some false)) h.2.1) (typeds_enc (s' (some true)) h.2.2)
theorem typeOf_any {e:Ex} (h:numsOk e) (mv:Value) (M:ByteArray→ByteArray) (w:World) (hM:MY mv M w) :
 Calls Tryz.prog 104 #[encX e,mv] w fun e' w'=>e' = .returned (.string (typeX M e))∧Below w.heap.size w w':=by
 obtain ⟨T,v,u,F,hx,m1,e1,_,c1⟩:=typeds_enc e h
 rw [hx]
 have hc:=c1 mv M w hM
 simp only at hc
 have HC:=hid hc
 clear hc
 clear c1 hM
 obtain ⟨r,hr⟩:∃ r,r=typeX M e:=⟨_,rfl⟩
 rw [←hr] at HC ⊢
 clear hr hx
 go_enter Tryz.func104,Tryz.ntmps104
 go_wp2_with fail
 refine HC.out.mono ?_
 rintro e' w1 ⟨rfl,hb⟩
 go_wp2
 go_ret
 exact ⟨rfl,hb⟩
end Go.Proofs.YthibodlojlkppaaGreatDoor

import Derived.Test.YthibodlojlkppaaGreatDoorZ09
set_option linter.all false
set_option maxRecDepth 100000
set_option maxHeartbeats 40000000
namespace Go.Proofs.YthibodlojlkppaaGreatDoor
open Go.RowKit
variable [DecidableEq K] [LawfulBEq Lk]
theorem cV.mapO{st:St V}{L:aM}{lp:Option K}{bs:Nat}{fm q sm bg kv:Value}{arr:List K}{w:World}(h:cV st L lp bs fm q sm bg kv arr w){mb n0:Nat}{es0:Array MapEntry}(hm:w.heap[mb]? = some (.map es0 n0))(hno:¬L.own mb)(es:Array MapEntry)(n:Nat):cV st L lp bs fm q sm bg kv arr (Ses.setO w mb (.map es n)):=by
 have hk:∀(b:Nat) (cs:Array Value) (T:TypeId),w.heap[b]? = some (.cells cs T)->(Ses.setO w mb (.map es n)).heap[b]? = some (.cells cs T):=fun b cs T hb=>(Ses.setO_ne _ _ _ _ (fun e=>by rw[e,hm] at hb;cases hb)).trans hb;have hsz:(Ses.setO w mb (.map es n)).heap.size=w.heap.size:=by simp[Ses.setO]
 have hmp:∀(b:Nat) (es':Array MapEntry) (n':Nat),L.own b->w.heap[b]? = some (.map es' n')->(Ses.setO w mb (.map es n)).heap[b]? = some (.map es' n'):=fun b es' n' ho hb=>(Ses.setO_ne _ _ _ _ (fun (e:b=mb)=>hno (by rw[<-e];exact ho))).trans hb;refine⟨⟨hk _ _ _ h.s,h.bo,fun b hb=>by rw[hsz];exact h.olt b hb,?_,fun f c hf=>⟨(h.srb f c hf).1,hk _ _ _ (h.srb f c hf).2⟩,h.sri,h.qm,?_,h.bg.keep fun b cs=>hk b cs _,h.kv.keep fun b cs=>hk b cs _,h.perm,h.nd,h.kl,h.ex,fun j m hj=>?_⟩,h.heap⟩
 . rcases h.sr with h1|⟨b,es',n',h1,h2,h3,h4⟩
   . exact .inl h1
   . exact .inr ⟨b,es',n',h1,h2,hmp _ _ _ h2 h3,h4⟩
 . rcases h.sm with h1|⟨b,es',n',h1,h2,h3,h4⟩
   . exact .inl h1
   . exact .inr ⟨b,es',n',h1,h2,hmp _ _ _ h2 h3,h4⟩
 . have hc:=h.cell j m hj
   obtain⟨x,vs,a,b⟩:=hc.ex;exact⟨⟨x,vs,hk _ _ _ a,b.keepT fun b cs T _ _=>hk b cs T⟩,hc.own⟩
section
variable {W0:World} {B bs lb:Nat} {fm:Value} {st0 st st1:St V} {L0 L L1:aM} {w0 w w1:World} {lk lk1:List Lk}
theorem WS.mapO(h:WS W0 B bs lb fm st0 L0 w0 st L lk w){mb n0:Nat}{es0:Array MapEntry}(hm:w.heap[mb]? = some (.map es0 n0))(hno:gV L lb mb)(h0:w0.heap.size<=mb)(h00:W0.heap.size<=w0.heap.size)(hfm:fm ≠ .map (some mb))(es:Array MapEntry)(n:Nat):WS W0 B bs lb fm st0 L0 w0 st L lk (Ses.setO w mb (.map es n)):=by
 have hk:∀(b:Nat) (cs:Array Value) (T:TypeId),w.heap[b]? = some (.cells cs T)->(Ses.setO w mb (.map es n)).heap[b]? = some (.cells cs T):=fun b cs T hb=>(Ses.setO_ne _ _ _ _ (fun e=>by rw[e,hm] at hb;cases hb)).trans hb;have hsz:(Ses.setO w mb (.map es n)).heap.size=w.heap.size:=by simp[Ses.setO]
 obtain⟨hE,hK,hM,hl0,hb0,hN⟩:=h;obtain⟨q,sm,bg,kv,arr,hE⟩:=hE;obtain⟨lv,l1,l2,l3⟩:=hK.blk;refine⟨⟨q,sm,bg,kv,arr,hE.mapO hm hno.1 es n⟩,⟨⟨lv,hk _ _ _ l1,bJ l2 fun g hg=>?_,l3⟩,hK.nb,by rw[hsz];exact hK.ge,hK.ex,hK.len⟩,⟨hM.sm,hM.mp.imp id fun⟨b,es',n',h1,h2,h3,h4⟩=>⟨b,es',n',h1,h2,(Ses.setO_ne _ _ _ _ (fun e=>hfm (by rw[h1,e]))).trans h3,h4⟩,⟨hM.low.os,hM.low.tape,hM.low.output,by rw[hsz];exact hM.low.size,fun k hk=>(Ses.setO_ne _ _ _ _ (by omega)).trans (hM.low.block k hk)⟩,hM.ow⟩,hl0,hb0,⟨hN.bk,hN.sb,hN.own,⟨hN.fr.os,hN.fr.tape,hN.fr.output,by rw[hsz];exact hN.fr.size,fun k hk hn=>(Ses.setO_ne _ _ _ _ (by omega)).trans (hN.fr.block k hk hn)⟩⟩⟩;obtain⟨cur,e3⟩:=jG l2 hg;exact Ses.setO_ne _ _ _ _ fun e=>by rw[e,hm] at e3;cases e3
theorem FM.fresh{F:ByteArray->Option ByteArray}(h:FM W0 F L fm w){mb:Nat}(hb:w.heap.size<=mb):fm ≠ .map (some mb):=fun e=>by
 rcases h.mp with ⟨h1,_⟩|⟨b,es,n,h1,h2,h3,h4⟩
 . rw[h1] at e;cases e
 . rw[h1] at e;cases e
   have:=aB h3;omega
structure LP (W0:World) (B bs lb:Nat) (fm:Value) (st0:St V) (L0:aM) (w0:World) (kb:Nat) (ko:Obj) (mb:Nat) (l:List (ByteArray×ByteArray×Int)) (na:Option Addr) (nc3:Nat) (ns:List ByteArray) (a2:Option Addr) (c2:Nat) (is:List cL) (st:St V) (L:aM) (lk:List Lk) (w:World):Prop where
 s:WS W0 B bs lb fm st0 L0 w0 st L lk w
 k:w.heap[kb]? = some ko
 km:gV L lb kb
 m:MN l mb w
 mm:gV L lb mb
 n:Row L.own w 9 (.slice na ns.length nc3) ns.length (ns.map .string)
 t:n5 L w a2 c2 is
variable {kb mb:Nat} {ko:Obj} {l:List (ByteArray×ByteArray×Int)} {na a2:Option Addr} {nc3 c2:Nat} {ns:List ByteArray} {is:List cL}
theorem MN.below{w':World}(h:MN l mb w)(hb:Below w.heap.size w w'):MN l mb w':=by
 obtain⟨es,n,h1,h2⟩:=h;exact⟨es,n,below_heap hb (aB h1) h1,h2⟩
theorem LP.below{w':World}(h:LP W0 B bs lb fm st0 L0 w0 kb ko mb l na nc3 ns a2 c2 is st L lk w)(hb:Below w.heap.size w w'):LP W0 B bs lb fm st0 L0 w0 kb ko mb l na nc3 ns a2 c2 is st L lk w':=
 ⟨h.s.below hb,below_heap hb (aB h.k) h.k,h.km,h.m.below hb,h.mm,Row.below h.n hb,Row.below h.t hb⟩
theorem LP.got(h:LP W0 B bs lb fm st0 L0 w0 kb ko mb l na nc3 ns a2 c2 is st L lk w)(hko:∀cs,ko ≠ .cells cs 169)(hg:mZ W0 B bs lb fm st0 L0 w0 st L w st1 L1 lk1 w1):LP W0 B bs lb fm st0 L0 w0 kb ko mb l na nc3 ns a2 c2 is st1 L1 lk1 w1:=by
 obtain⟨lv,hlb,_⟩:=h.s.k.blk;obtain⟨es,n,h1,h2⟩:=h.m;have hm:=hg.n.mine h1 h.mm (fun cs e=>by cases e);have hk:=hg.n.mine h.k h.km hko;exact⟨hg.s,hk.1,hk.2,⟨es,n,hm.1,h2⟩,hm.2,Row.wnext h.n hg.n hlb (by decide) (by decide),Row.wnext h.t hg.n hlb (by decide) (by decide)⟩
theorem Row.mapO{O:Nat->Prop}{T:TypeId}{v:Value}{n:Nat}{xs:List Value}(h:Row O w T v n xs){n0:Nat}{es0:Array MapEntry}(hm:w.heap[mb]? = some (.map es0 n0))(o:Obj):Row O (Ses.setO w mb o) T v n xs:=
 h.keepT fun b cs hb=>(Ses.setO_ne _ _ _ _ (fun e=>by rw[e,hm] at hb;cases hb)).trans hb
theorem LP.put(h:LP W0 B bs lb fm st0 L0 w0 kb ko mb l na nc3 ns a2 c2 is st L lk w)(hko:∀es n,ko ≠ .map es n)(h0:w0.heap.size<=mb)(h00:W0.heap.size<=w0.heap.size)(hfm:fm ≠ .map (some mb))(f t:ByteArray)(z:Int)(hf:f∉l.map (·.1)) :
 ∃es n,(Instr.mapUpdate 195 (.map (some mb)) (.string f) (.agg #[.string t,.int .i64 z])).run Tryz.prog w = .ok () (Ses.setO w mb (.map es n))/\LP W0 B bs lb fm st0 L0 w0 kb ko mb (l ++ [(f,t,z)]) na nc3 ns a2 c2 is st L lk (Ses.setO w mb (.map es n)):=by
 obtain⟨es,n,h1,h2⟩:=GI h.m f t z hf;obtain⟨es0,n0,hm,_⟩:=h.m;have hkm:kb≠mb:=fun e=>by
  have:=h.k
  rw[e,hm] at this;injection this with this;exact hko _ _ this.symm
 exact⟨es,n,h1,h.s.mapO hm h.mm h0 h00 hfm es n,(Ses.setO_ne _ _ _ _ hkm).trans h.k,h.km,h2,h.mm,h.n.mapO hm _,h.t.mapO hm _⟩
end
theorem MU.item{W0:World}{B bs lb:Nat}{fm:Value}{st0 st st1:St V}{L0 L:aM}{w0 w w2:World}{lk1:List Lk}{its:List cL}{fl:Option Nat}{nm:ByteArray}{kb:Nat}{ko:Obj}{a2:Option Addr}{c2:Nat}(h:MU W0 B bs lb fm st0 L0 w0 st L w st1 lk1 its fl nm kb ko a2 c2 w2){i:cL}{l:List cL}(hl:aU nm its=i::l){e:Ex}(he:i.ex=some e):∃gb,a2=some ⟨gb,0,none⟩/\w2.cell? ⟨gb,4,none⟩=some (fF e):=by
 obtain⟨_,L',_,_,hT,_⟩:=h;rw[hl] at hT;obtain⟨g,h1,h2⟩:=eJ hT (a:=0) rfl (j:=4) (u:=fF e) (by simp[aP,cI,he,Ja]);exact⟨g,h1,h2⟩
theorem CU{W0:World}{B bs lb:Nat}{fm:Value}{st:St V}{L:aM}{w:World}{E:eF V}(hE:dX W0 E bs fm)(hpt:PT W0.heap.size W0)(heo:LA W0)(hW:WS W0 B bs lb fm st L w st L [] w)(h00:W0.heap.size<=w.heap.size){f nm:ByteArray}{nc:Bool}{out:Out (V×List Lk)}{stE:St V}(hr:run E nc (tK f nm) [] st=some (out,stE)) :
 Calls Tryz.prog 76 #[ptr bs,ptr lb,.agg #[.int .i64 7,.string f,.string nm]] w (bM B st L bs lb fm 7 out stE w):=by
 obtain⟨kd,lk1,st1,hm,hr⟩:=mY (by simp) hr;have HB0:=hid (aG w (.cells #[.int .i64 7,.string f,.string nm] 99));have hA:=aI w (.cells #[.int .i64 7,.string f,.string nm] 99);have HTY:=hid (GH hE (hW.below HB0.out) hm);have HM:=hid (hW.mine (Nat.le_refl w.heap.size));have ka1:=aA (i:=1) hA;have ka2:=aA (i:=2) hA;have HA:=hid hA;have HR:=hid hr;have HE:=hid hE;have H0:=hid (And.intro hpt heo);clear hA hW hm hr hE hpt heo;go_enter Tryz.func76,Tryz.ntmps76;go_wp2_with fail
 refine HTY.out.mono ?_;rintro e w1⟨rfl,L1,hg⟩;have hA1:=hg.n.mine HA.out HM.out (fun cs e=>by injection e with _ e;exact absurd e (by decide));have kb1:=aA (i:=1) hA1.1;have kb2:=aA (i:=2) hA1.1;have HA1:=hid hA1;have HG1:=hid (hg.lift HB0.out);clear hg hA1 HTY ka1 ka2;cases hk:(bB kd none_||bB kd eX) with
 | true=>
  have hr:=HR.out;rw[if_pos hk] at hr;obtain⟨hout,rfl⟩:=eO hr;have HOUT:=hid hout;clear hr HR hout;cases h1:(kd.toList == [110,111,110,101]) with
  | true=>
   clear hk;go_wp2;go_ret;rw[HOUT.out];exact HG1.out.s.doneS (kind:=7) (by decide) (by decide) (by decide) _
  | false=>
   have h2:(kd.toList == [98,97,100])=true:=by
    rw[show bB kd none_=false from (bP kd [110,111,110,101]).trans h1] at hk;exact (bP kd [98,97,100]).symm.trans (by simpa using hk)
   clear hk;go_wp2;go_ret;rw[HOUT.out];exact HG1.out.s.doneS (kind:=7) (by decide) (by decide) (by decide) _
 | false=>
  have hr:=HR.out;rw[if_neg (by rw[hk];decide)] at hr;have h1:(kd.toList == [110,111,110,101])=false:=by
   have:=(Bool.or_eq_false_iff.1 hk).1
   exact (bP kd [110,111,110,101]).symm.trans this
  have h2:(kd.toList == [98,97,100])=false:=by
   have:=(Bool.or_eq_false_iff.1 hk).2
   exact (bP kd [98,97,100]).symm.trans this
  obtain⟨its,fl,lk2,st2,hm,hr⟩:=lA hr;obtain⟨z,hz⟩:∃z,cU fl = .int .i64 z:=by cases fl <;> exact⟨_,rfl⟩
  have HNT:=hid (xW HE.out HG1.out.s HG1.out.n.fr.size h00 (nm:=nm) hm hz (Below.refl _ _) HA1.out.1 HA1.out.2 (fun cs e=>by injection e with _ e;exact absurd e (by decide)));cases hl:aU nm its with
  | nil=>
   simp[hl,run] at hr
  | cons i l=>
   cases hex:i.ex with
   | none=>simp[hl,hex,run] at hr
   | some e=>
    simp only[hl,hex] at hr;obtain⟨n,hn⟩:∃n,n=(aU nm its).length:=⟨_,rfl⟩
    rw[<-hn] at HNT;have hnp:0<n:=by rw[hn,hl];simp
    have HLX:=hid (And.intro hl hex);have HR2:=hid hr;have kd1:w1.drew.cell? ⟨w.heap.size,1,none⟩=_:=kb1;have kd2:w1.drew.cell? ⟨w.heap.size,2,none⟩=_:=kb2;clear hk hm hr HR hl hex hn;go_wp2_with fail
    apply Cv (F:=fun (_:Option Addr) (_:Nat) (gb:Nat) (c2:Nat) (w2:World)=>MU W0 B bs lb fm st L w st1 L1 w1 st2 lk2 its fl nm w.heap.size (.cells #[.int .i64 7,.string f,.string nm] 99) (some ⟨gb,0,none⟩) c2 w2/\w2.cell? ⟨gb,4,none⟩=some (fF e));case main=>
     intro KEY;go_region_with (first
      | (refine (HNT.out _ ?hd).mono ?_;(case hd=>exact⟨rfl,rfl,rfl,rfl⟩);rintro e1 w4⟨ao,c,rfl,hk1,hn1⟩;have kb3:=aA (i:=2) hk1;have kb4:w4.drew.cell? ⟨w.heap.size,2,none⟩=_:=kb3)
      | (refine (hn1.out _ ?hd).mono ?_;(case hd=>exact⟨rfl,rfl,rfl,rfl⟩);rintro e1 w2⟨a2,c2,rfl,hq⟩;obtain⟨gb,rfl,hc4⟩:=hq.out.item HLX.out.1 HLX.out.2;have hd4:w2.drew.cell? ⟨gb,4,none⟩=_:=hc4;have hqq:=hid (And.intro hq.out hc4)))
     all_goals
      exact KEY ao c gb c2 w2 hqq.out
    case key=>
     intro ao c gb c2 w2 hq;obtain⟨hq,hc4⟩:=hq;obtain⟨hk2,L2,hg,hkm,hrow,s,hs,hits⟩:=hq;have HG2:=hid (show mZ W0 B bs lb fm st L w st L w st2 L2 lk2 w2 from ⟨HG1.out.n.trans hg.n,hg.s⟩);obtain⟨hno,hsz,hty⟩:=Bx hs hits HLX.out.1.symm HLX.out.2;have HK2:=hid hk2;have HKM:=hid hkm;have HRW:=hid hrow;have HNO:=hid hno;obtain⟨ns,hns⟩:∃ns,ns=aL e []:=⟨_,rfl⟩
     have HNS:=hid (fun W=>(show Calls Tryz.prog 102 #[fF e] W fun e' w'=>∃ao c,e' = .returned (.slice ao ns.length c)/\w'.ownsRow W.heap.size 9 1 (.slice ao ns.length c) ns.length (ns.map .string)/\Below W.heap.size W w' by rw[hns];exact xN (e:=e) (by omega) W));have hr:=HR2.out;rw[<-hns] at hr;have HNL:=hid (show ns.Nodup/\ns.length<=401 by
      rw[hns];exact⟨eE e [] (by simp),by have:=dR e [];simp at this;omega⟩)
     have HR3:=hid hr;have hmk:∀W:World,(Instr.makeMap 195 none).run Tryz.prog W = .ok (.map (some W.heap.size)) (W.alloc (.map #[] 0)):=fun W=>@run_makeMap Tryz.prog 195 W;clear hr HR2 hno hty hns hs hits hk2 hkm hrow hg HNT kb1 kb2 kd1 kd2 hc4 hnp;go_wp2_with fail
     refine (HNS.out _).mono ?_;rintro e2 w3⟨na,nc3,rfl,hown,hb3⟩;have hb2:=aG w2 (.map #[] 0);have HS:=hid (HG2.out.below (aF hb2 hb3)).s;have HNW:=hid (gW (O:=L2.own) hown fun g hg=>HG2.out.s.e.lt (by simp at hg;omega));have HMB:=hid (HG2.out.s.mine (b:=w2.heap.size) (Nat.le_refl _));have HFM:=hid (HG2.out.s.m.fresh (mb:=w2.heap.size) (Nat.le_refl _));have HW2:=hid (show w.heap.size<=w2.heap.size from HG2.out.n.fr.size);have HLP:Hid (LP W0 B bs lb fm st L w w.heap.size (.cells #[.int .i64 7,.string f,.string nm] 99) w2.heap.size [] na nc3 ns (some ⟨gb,0,none⟩) c2 (aU nm its) st2 L2 lk2 w3):=hid ⟨HS.out,below_heap (aF hb2 hb3) (aB HK2.out) HK2.out,HKM.out,⟨#[],0,below_heap hb3 (aB (aI w2 (.map #[] 0))) (aI w2 (.map #[] 0)),rfl,by simp⟩,HMB.out,HNW.out,Row.below HRW.out (aF hb2 hb3)⟩;clear hown hb3 hb2 HS HNW HMB hmk hsz;generalize w2.heap.size=mb at HLP HFM HW2 ⊢;go_wp2;go_loopg [10,45] ns.length (fun f' vf vi wr=>∃(k:Nat) (fault:ByteArray) (l:List (ByteArray×ByteArray×Int)) (M:ByteArray->Int) (st':St V) (L':aM) (lk:List Lk),k+f'=ns.length/\vf = .string fault/\vi = .int .i64 (k:Nat)/\LP W0 B bs lb fm st L w w.heap.size (.cells #[.int .i64 7,.string f,.string nm] 99) mb l na nc3 ns (some ⟨gb,0,none⟩) c2 (aU nm its) st' L' lk wr/\l.map (·.1)=ns.take k/\(∀x,(∃t,(x,t,M x)∈l)\/(x∉l.map (·.1)/\M x=0))/\(∀x,0<=M x/\M x<=999999999)/\run E nc (lR f (fun fault M=>.ret (.s (gF e kd fault M))) (ns.drop k) fault M) lk st'=some (out,stE))
     case atStart=>exact⟨0,bA,[],fun _=>0,st2,L2,lk2,by omega,rfl,rfl,HLP.out,rfl,fun x=>.inr ⟨by simp,rfl⟩,fun x=>by simp,HR3.out⟩
     case round=>
      clear HLP HR3;obtain⟨k,fault,l,M,st',L',lk,hk,rfl,rfl,hLP,hl,hM,hMb,hr⟩:=hrel;have hkc:(0:Int)<=(k:Int):=by omega
      have hnl:=HNL.out.2;by_cases hlt:k<ns.length
      . have hlt2:(k:Int)<(ns.length:Int):=by omega
        obtain⟨nk,hnk⟩:∃nk,ns[k]? = some nk:=⟨ns[k],List.getElem?_eq_getElem hlt⟩
        have hd:ns.drop k=nk::ns.drop (k+1):=by
         rw[List.drop_eq_getElem_cons hlt];congr 1;rw[List.getElem?_eq_getElem hlt] at hnk;injection hnk
        rw[hd] at hr;obtain⟨g,lk5,st5,hm5,hr⟩:=mY (by simp) hr;obtain⟨gn,rfl,hc⟩:=nD hLP.n k nk hnk;have HFI:=hid (GG HE.out hLP.s hm5);have kk1:=aA (i:=1) hLP.k;have HLPP:=hid hLP;have HFR:=hid (show nk∉l.map (·.1) by rw[hl];exact u9 HNL.out.1 hnk);have HLT:=hid (show l.map (·.1) ++ [nk]=ns.take (k+1) by rw[hl,List.take_add_one,hnk];rfl);have HMM:=hid hM;have HMB:=hid hMb;have HK:=hid hk;have HR5:=hid hr;clear hLP hr hnk hd hk hl hM hMb hm5;go_wp2_with fail
        refine HFI.out.mono ?_;rintro e3 w4⟨rfl,L5,hg5⟩;have HLP5:=hid (HLPP.out.got (fun cs e=>by injection e with _ e;exact absurd e (by decide)) hg5);clear hg5 HFI HLPP hc kk1;rcases Bd HR5.out with ⟨v,lk6,st6,hm6,hr6⟩|⟨cc,hm6,hout,hnc⟩
        . have hvo:gP v=true:=by
           cases hvo:gP v with
           | true=>rfl
           | false=>rw[hvo] at hr6;simp[run] at hr6
          rw[if_pos hvo] at hr6;have HVA:=hid (CA HE.out HLP5.out.s hm6);have HR6:=hid hr6;have HVO:=hid hvo;clear hm6 hr6 hvo HR5;go_wp2_with fail
          refine HVA.out.mono ?_;rintro e4 w5⟨rfl,L6,hg6⟩;have HLP6:=hid (HLP5.out.got (fun cs e=>by injection e with _ e;exact absurd e (by decide)) hg6);clear hg6 HVA HLP5;go_wp2_with fail
          refine (xS fault v w5).mono ?_;rintro e5 w6⟨rfl,rfl⟩;have heo6:LA w6:=by
           obtain⟨ev,h1,h2⟩:=H0.out.2;exact⟨ev,aK HLP6.out.s.m.low h1,h2⟩
          have HRW6:=hid (wW HVO.out w6 heo6);clear heo6;have hbd:=uN v;obtain⟨rv,hrv⟩:∃rv,rv=eN v:=⟨_,rfl⟩
          have hr7:=HR6.out;rw[<-hrv] at HRW6 hbd hr7;have HR7:=hid hr7;have HBD:=hid hbd;clear hrv hr7 HR6 hbd;go_wp2_with fail
          refine HRW6.out.mono ?_;rintro e6 w7⟨rfl,hb7⟩;obtain⟨es,n4,Ej,hlp7⟩:=(HLP6.out.below hb7).put (fun es n e=>by cases e) HW2.out h00 HFM.out nk bA rv HFR.out;have HLP7:=hid hlp7;have HMM7:=hid (show ∀x,(∃t,(x,t,(if x=nk then rv else M x))∈l ++ [(nk,bA,rv)])\/(x∉(l ++ [(nk,bA,rv)]).map (·.1)/\(if x=nk then rv else M x)=0) from fun x=>by
           by_cases hx:x=nk
           . subst hx
             exact .inl ⟨bA,by simp⟩
           . rw[if_neg hx]
             rcases HMM.out x with ⟨z,h⟩|⟨h1,h2⟩
             . exact .inl ⟨z,List.mem_append_left _ h⟩
             . refine .inr ⟨?_,h2⟩
               rw[List.map_append,List.mem_append];rintro (h|h)
               . exact h1 h
               . simp at h;exact hx h)
          have HMB7:=hid (show ∀x,0<=(if x=nk then rv else M x)/\(if x=nk then rv else M x)<=999999999 from fun x=>by
           by_cases hx:x=nk
           . rw[if_pos hx];exact HBD.out
           . rw[if_neg hx];exact HMB.out x)
          clear hlp7 hb7 HLP6 HRW6 HMM HMB HFR;go_wp2;go_roundg (ns.length-(k+1))
          case rel=>exact⟨k+1,_,_,_,st6,L6,lk6,by have:=HK.out;omega,rfl,by go_num,HLP7.out,by rw[List.map_append];exact HLT.out,HMM7.out,HMB7.out,HR7.out⟩
          case measure=>have:=HK.out;omega
        . have hvc:=JF HE.out HLP5.out.s hm6 7
          have HVC:=hid hvc;have HOUT:=hid hout;clear hm6 hvc hout HR5 HLP5;unfold oQ at HVC;go_wp2_with fail
          refine HVC.out.mono ?_;rintro e4 w5⟨rfl,hp⟩;go_wp2_with fail
          refine⟨rfl,?_⟩;rw[HOUT.out];exact hp
      . have hke:k=ns.length:=by omega
        have hlt2:¬((k:Int)<(ns.length:Int)):=by omega
        rw[hke,List.drop_length] at hr;obtain⟨hout,rfl⟩:=eO hr;have HMW:=hid (show MW (.map (some mb)) M wr from ⟨fun W hW x=>by
         rcases hM x with ⟨z,h⟩|⟨h1,h2⟩
         . exact⟨z,sY (hLP.m.below hW) x z (M x) (.inl h)⟩
         . exact⟨bA,sY (hLP.m.below hW) x bA (M x) (.inr ⟨h1,rfl,h2⟩)⟩,fun x=>(hMb x).1,fun x=>(hMb x).2⟩)
        obtain⟨g1,hg1,hc4⟩:=eJ hLP.t (a:=0) (show (aU nm its)[0]? = some i by rw[HLX.out.1];rfl) (j:=4) (u:=Ja i.ex) rfl;have hc5:wr.cell? ⟨g1,4,none⟩=some (fF e):=by
         have:=hc4
         simpa[HLX.out.2,Ja] using this
        cases hg1;have hd5:wr.drew.cell? ⟨gb,4,none⟩=some (fF e):=hc5;have HLPP:=hid hLP;have HRK:=hid (CM HNO.out (.map (some mb)) M wr HMW.out);cases hf0:(fault.toList == []) with
        | false=>
         have HOUT:=hid (show out = .ok (.s fault,lk) by rw[hout];simp only[gF];rw[if_neg (by rw[show bB fault bA=false from (bP fault []).trans hf0];exact Bool.noConfusion)]);clear hLP hr hk hl hM hMb hc4 hout;go_wp2;go_ret;rw[HOUT.out];exact HLPP.out.s.doneS (kind:=7) (by decide) (by decide) (by decide) _
        | true=>
         have hf1:bB fault bA=true:=(bP fault []).trans hf0;have hbd:=lC (fun x=>hMb x) e HNO.out;have HPT:=hid (fun w' (h':Below wr.heap.size wr w')=>H0.out.1 w' (aF hLP.s.m.low h'));cases hx:dO M e with
         | none=>
          have HOUT:=hid (show out = .ok (.s q8,lk) by rw[hout];simp only[gF];rw[if_pos hf1,hx]);have HRK2:=HRK.out;rw[hx] at HRK2;simp only[Option.getD_none,Option.isSome_none] at HRK2;have HRK3:=hid HRK2;clear hLP hr hk hl hM hMb hc4 hout hbd hf1 HRK HRK2 HPT hx;go_wp2_with fail
          refine HRK3.out.mono ?_;rintro e3 w4⟨rfl,hb4⟩;have HB4:=hid hb4;clear hb4;go_wp2;go_ret;rw[HOUT.out];exact (HLPP.out.s.below HB4.out).doneS (kind:=7) (by decide) (by decide) (by decide) _
         | some n=>
          have HOUT:=hid (show out = .ok (.s (oL kd n),lk) by rw[hout];simp only[gF];rw[if_pos hf1,hx]);have HRK2:=HRK.out;rw[hx] at HRK2;simp only[Option.getD_some,Option.isSome_some] at HRK2;have HRK3:=hid HRK2;have hb:=hbd n hx;clear hLP hr hk hl hM hMb hc4 hout hbd hf1 HRK HRK2 hx;go_wp2_with fail
          refine HRK3.out.mono ?_;rintro e3 w4⟨rfl,hb4⟩;have HB4:=hid hb4;have HWR:=hid (u5 kd n hb.1 hb.2 w4 (fun w' h'=>HPT.out w' (aF hb4 h')));clear hb4;go_wp2_with fail
          refine HWR.out.mono ?_;rintro e4 w5⟨rfl,hb5⟩;have HB5:=hid hb5;clear hb5;go_wp2;go_ret;rw[HOUT.out];exact (HLPP.out.s.below (aF HB4.out HB5.out)).doneS (kind:=7) (by decide) (by decide) (by decide) _
theorem EM{W0:World}{B bs lb:Nat}{fm:Value}{st:St V}{L:aM}{w:World}{E:eF V}(hE:dX W0 E bs fm)(hW:WS W0 B bs lb fm st L w st L [] w)(h00:W0.heap.size<=w.heap.size){f nm:ByteArray}{nc:Bool}{out:Out (V×List Lk)}{st':St V}(hr:run E nc (AF f nm) [] st=some (out,st')) :
 Calls Tryz.prog 74 #[ptr bs,ptr lb,.agg #[.int .i64 5,.string f,.string nm]] w (bM B st L bs lb fm 5 out st' w):=by
 obtain⟨its,fl,lk1,st1,hm,hr⟩:=lA hr;have HB0:=hid (aG w (.cells #[.int .i64 5,.string f,.string nm] 99));have HTR:=hid (xG hE (hW.below HB0.out) HB0.out.size h00 hm);have hA:=aI w (.cells #[.int .i64 5,.string f,.string nm] 99);have HM:=hid (hW.mine (Nat.le_refl w.heap.size));have ka1:=aA (i:=1) hA;have ka2:=aA (i:=2) hA;have HA:=hid hA;have HR:=hid hr;have HE:=hid hE;clear hA hW hm hr hE;go_enter Tryz.func74,Tryz.ntmps74;go_wp2_with fail
 refine HTR.out.mono ?_;rintro e w1⟨ao,c,rfl,L1,hg,hrow,s,hs,hits⟩;have hA1:=(hg.n.mine HA.out HM.out (fun cs e=>by injection e with _ e;exact absurd e (by decide))).1;have hlen:=l9 hs hits;obtain⟨z,hz⟩:∃z,cU fl = .int .i64 z:=by cases fl <;> exact⟨_,rfl⟩
 rw[hz];have hT:=aI w1 (.cells #[.slice ao its.length c,.int .i64 z] 87);have HB1:=hid (aG w1 (.cells #[.slice ao its.length c,.int .i64 z] 87));have HS1:=hid (hg.s.below HB1.out);have HRW:=hid (Row.below hrow HB1.out);have HNA:=hid (Aa HRW.out hlen nm (.int .i64 z));have HLEN:=hid hlen;clear hg hrow hits hlen hz hs HTR;have y2:=aA (i:=2) (below_heap HB1.out (aB hA1) hA1);have hA2:=below_heap HB1.out (aB hA1) hA1;have t0:=aA (i:=0) hT;have t1:=aA (i:=1) hT;have HA2:=hid hA2;have HT2:=hid hT;clear hA1 hA2 hT;go_wp2_with fail
 refine (HNA.out _ (Below.refl _ _)).mono ?_;rintro e w3⟨a2,c2,rfl,_,hb3⟩;have HB3:=hid hb3;have HS3:=hid (HS1.out.below hb3);have HR3:=hid (Row.below HRW.out hb3);have b1:=aA (i:=1) (below_heap hb3 (aB HA2.out) HA2.out);have b2:=aA (i:=2) (below_heap hb3 (aB HA2.out) HA2.out);have u0:=aA (i:=0) (below_heap hb3 (aB HT2.out) HT2.out);have u1:=aA (i:=1) (below_heap hb3 (aB HT2.out) HT2.out);clear hb3 t0 t1 y2 HNA ka1 ka2;generalize w1.heap.size=tb at u0 u1 ⊢;obtain⟨l,hl⟩:∃l,l=aU nm its:=⟨_,rfl⟩
 have hr:=HR.out;rw[<-hl] at hr ⊢;cases l with
 | nil=>
  have HFU:=hid (EI (fl:=.int .i64 z) HE.out HS3.out HR3.out HLEN.out hr);clear hr HR hl;simp only[List.length_nil];go_wp2_with fail
  refine HFU.out.mono ?_;rintro e w4⟨⟨b,rfl⟩,hp⟩;go_wp2;go_ret;exact hp.out
 | cons i l=>
  cases l with
  | nil=>
   obtain⟨rfl,rfl⟩:=eO hr;clear hr HR hl;simp only[List.length_cons,List.length_nil];go_wp2;go_ret;exact HS3.out.doneS (kind:=5) (by decide) (by decide) (by decide) _
  | cons j l=>
   obtain⟨rfl,rfl⟩:=eO hr;simp only[List.length_cons];obtain⟨n,hn⟩:∃n,n=l.length+1+1:=⟨_,rfl⟩
   rw[<-hn];have h0:((n:Int)==0)=false:=by rw[beq_eq_false_iff_ne];omega
   have h1:((n:Int)==1)=false:=by rw[beq_eq_false_iff_ne];omega
   clear hr HR hl hn;go_wp2;go_ret;exact HS3.out.doneS (kind:=5) (by decide) (by decide) (by decide) _
structure MY (mv:Value) (M:ByteArray->ByteArray) (w:World):Prop where
 look:∀W,Below w.heap.size w W->∀nm,∃z,(Instr.lookup 195 mv (.string nm) false).run Tryz.prog W = .ok (.agg #[.string (M nm),.int .i64 z]) W
theorem MY.below{mv:Value}{M:ByteArray->ByteArray}{w w':World}(h:MY mv M w)(hb:Below w.heap.size w w'):MY mv M w':=⟨fun W hW=>h.look W (aF hb hW)⟩
def jU(x:Value)(r:(ByteArray->ByteArray)->ByteArray):Prop:=
 ∃(T:TypeId) (v u:Value) (F:FuncId),x = .iface T v/\(∀w,(method 414 T v "almanac/lang.typed").run Tryz.prog w = .ok (F,u) w)/\(∀args w,(callFunc F args).run Tryz.prog w = .ok (.enter F args) w)/\Tryz.prog.inits.idxOf? F=none/\
  ∀(mv:Value) (M:ByteArray->ByteArray) (w:World),MY mv M w->
   Calls Tryz.prog F #[u,mv] w fun e w'=>e = .returned (.string (r M))/\Below w.heap.size w w'
theorem Hk(n:Int)(w:World):(method 414 197 (.int .i64 n) "almanac/lang.typed").run Tryz.prog w = .ok (246,(.int .i64 n)) w:=by kernel_rfl
theorem Hl(args:Array Value)(w:World):(callFunc 246 args).run Tryz.prog w = .ok (.enter 246 args) w:=by kernel_rfl
theorem JW(n:Bool)(w:World):(method 414 290 (.bool n) "almanac/lang.typed").run Tryz.prog w = .ok (259,(.bool n)) w:=by kernel_rfl
theorem JX(args:Array Value)(w:World):(callFunc 259 args).run Tryz.prog w = .ok (.enter 259 args) w:=by kernel_rfl
theorem LI(n:ByteArray)(w:World):(method 414 291 (.string n) "almanac/lang.typed").run Tryz.prog w = .ok (263,(.string n)) w:=by kernel_rfl
theorem LJ(args:Array Value)(w:World):(callFunc 263 args).run Tryz.prog w = .ok (.enter 263 args) w:=by kernel_rfl
theorem LK(n:Value)(w:World):(method 414 271 n "almanac/lang.typed").run Tryz.prog w = .ok (252,n) w:=by kernel_rfl
theorem LL(args:Array Value)(w:World):(callFunc 252 args).run Tryz.prog w = .ok (.enter 252 args) w:=by kernel_rfl
theorem Hm(n:Value)(w:World):(method 414 293 n "almanac/lang.typed").run Tryz.prog w = .ok (267,n) w:=by kernel_rfl
theorem Hn(args:Array Value)(w:World):(callFunc 267 args).run Tryz.prog w = .ok (.enter 267 args) w:=by kernel_rfl
theorem xA(n:Int):jU (.iface 197 (.int .i64 n)) (fun _=>eP):=by
 refine⟨_,_,_,_,rfl,Hk _,Hl,by kernel_rfl,fun mv M w hM=>?_⟩;go_enter Tryz.func246,Tryz.ntmps246;go_wp2;go_ret;exact⟨rfl,Below.refl _ _⟩
theorem Ac(b:Bool):jU (.iface 290 (.bool b)) (fun _=>fS):=by
 refine⟨_,_,_,_,rfl,JW _,JX,by kernel_rfl,fun mv M w hM=>?_⟩;go_enter Tryz.func259,Tryz.ntmps259;go_wp2;go_ret;exact⟨rfl,Below.refl _ _⟩
theorem JY(a:ByteArray)(b:Int)(w:World):(Instr.field 199 (.agg #[.string a,.int .i64 b]) 0).run Tryz.prog w = .ok (.string a) w:=by kernel_rfl
theorem BC(t:ByteArray):jU (.iface 291 (.string t)) (fun M=>M t):=by
 refine⟨_,_,_,_,rfl,LI _,LJ,by kernel_rfl,fun mv M w hM=>?_⟩;obtain⟨z,h0⟩:=hM.look w (Below.refl _ _) t;have hfd:=JY (M t) z;go_enter Tryz.func263,Tryz.ntmps263;go_wp2;go_ret;exact⟨rfl,Below.refl _ _⟩
theorem jV(b:Bool)(k:ByteArray)(w:World):Calls Tryz.prog 255 #[.bool b,.string k] w fun e w'=>e = .returned (.string (kW b k))/\w'=w:=by
 cases b;all_goals
  go_enter Tryz.func255,Tryz.ntmps255;go_wp2;go_ret;exact⟨rfl,rfl⟩
def KQ(op:List UInt8)(l r:(ByteArray->ByteArray)->ByteArray):(ByteArray->ByteArray)->ByteArray:=fun M=>
 if bB (l M) (r M) then (if op = [61,61] then kW (!bB (l M) bA) fS else kW (bB (l M) eP) eP) else bA
theorem BD{op:List UInt8}(hop:op = [43]\/op = [42]\/op = [61,61]){l r:Value}{f g:(ByteArray->ByteArray)->ByteArray}(hl:jU l f)(hr:jU r g):jU (lP ⟨⟨op⟩⟩ l r) (KQ op f g):=by
 obtain⟨T1,v1,u1,F1,rfl,m1,e1,_,c1⟩:=hl;obtain⟨T2,v2,u2,F2,rfl,m2,e2,_,c2⟩:=hr;refine⟨_,_,_,_,rfl,LK _,LL,by kernel_rfl,fun mv M w hM=>?_⟩;have hbl:=cG w (.cells #[.string ⟨⟨op⟩⟩,.iface T1 v1,.iface T2 v2] 271);have HBL:=hid hbl;have hN:=aI w (.cells #[.string ⟨⟨op⟩⟩,.iface T1 v1,.iface T2 v2] 271);have HN:=hid hN;have HC1:Hid (∀W,iU (w.alloc (.cells #[.string ⟨⟨op⟩⟩,.iface T1 v1,.iface T2 v2] 271)) W->Calls Tryz.prog F1 #[u1,mv] W fun e w1=>e = .returned (.string (f M))/\w1.heap[w.heap.size]? = some (.cells #[.string ⟨⟨op⟩⟩,.iface T1 v1,.iface T2 v2] 271)/\Hid (∀W2,iU w1 W2->Calls Tryz.prog F2 #[u2,mv] W2 fun e w2=>e = .returned (.string (g M))/\w2.heap[w.heap.size]? = some (.cells #[.string ⟨⟨op⟩⟩,.iface T1 v1,.iface T2 v2] 271)/\Hid (Below w.heap.size w w2))):=hid fun W hW=>by
  have hb1:=aF hbl hW.below;refine (c1 mv M W (hM.below hb1)).mono ?_;rintro e w1⟨rfl,h1⟩;have hp1:=below_heap h1 (aB (below_heap hW.below (aB hN) hN)) (below_heap hW.below (aB hN) hN);refine⟨rfl,hp1,hid fun W2 hW2=>?_⟩;have hb2:=aF (aF hb1 h1) hW2.below;refine (c2 mv M W2 (hM.below hb2)).mono ?_;rintro e w2⟨rfl,h2⟩;exact⟨rfl,below_heap h2 (aB (below_heap hW2.below (aB hp1) hp1)) (below_heap hW2.below (aB hp1) hp1),hid (aF hb2 h2)⟩
 have k0:=aA (i:=0) hN;have k1:=aA (i:=1) hN;have k2:=aA (i:=2) hN;have k1':(w.alloc (.cells #[.string ⟨⟨op⟩⟩,.iface T1 v1,.iface T2 v2] 271)).drew.cell? ⟨w.heap.size,1,none⟩=_:=k1;have k2':(w.alloc (.cells #[.string ⟨⟨op⟩⟩,.iface T1 v1,.iface T2 v2] 271)).drew.cell? ⟨w.heap.size,2,none⟩=_:=k2;clear c1 c2 hM hbl hN HN HBL;obtain⟨a,ha⟩:∃a,a=f M:=⟨_,rfl⟩
 obtain⟨b,hb⟩:∃b,b=g M:=⟨_,rfl⟩
 rw[<-ha,<-hb] at HC1;have HP:=hid (show KQ op f g M=if bB a b then (if op = [61,61] then kW (!bB a bA) fS else kW (bB a eP) eP) else bA by rw[ha,hb];rfl);clear ha hb;go_enter Tryz.func252,Tryz.ntmps252;go_wp2_with fail
 go_region_with (first
  | (refine (HC1.out _ ?hd).mono ?_;(case hd=>exact⟨rfl,rfl,rfl,rfl⟩);rintro e w1⟨rfl,hN1,hk1⟩;have j0:=aA (i:=0) hN1;have j1:=aA (i:=1) hN1;have j2:=aA (i:=2) hN1;have j1':w1.drew.cell? ⟨w.heap.size,1,none⟩=_:=j1;have j2':w1.drew.cell? ⟨w.heap.size,2,none⟩=_:=j2)
  | (refine (hk1.out _ ?hd).mono ?_;(case hd=>exact⟨rfl,rfl,rfl,rfl⟩);rintro e w2⟨rfl,hN2,hk2⟩;have i0:=aA (i:=0) hN2;have HBW2:=hid hk2.out;clear hN2 hk2))
 all_goals
  cases h1:(a.toList==b.toList) with
  | false=>
   have HP2:=hid (HP.out.trans (if_neg (by rw[show bB a b=false from h1];decide)));go_wp2;go_ret;rw[HP2.out];exact⟨rfl,HBW2.out⟩
  | true=>
   have HP2:=hid (HP.out.trans (if_pos h1));rcases hop with rfl|rfl|rfl
   . have HP3:=hid (HP2.out.trans (if_neg (by decide)))
     obtain⟨c,hc⟩:∃c,c=bB a eP:=⟨_,rfl⟩
     have hc2:(a.toList == [105,110,116])=c:=(bP a [105,110,116]).symm.trans hc.symm;rw[<-hc] at HP3;clear hc;go_wp2_with fail
     refine (jV c eP w2).mono ?_;rintro e w3⟨rfl,rfl⟩;go_wp2;go_ret;rw[HP3.out];exact⟨rfl,HBW2.out⟩
   . have HP3:=hid (HP2.out.trans (if_neg (by decide)))
     obtain⟨c,hc⟩:∃c,c=bB a eP:=⟨_,rfl⟩
     have hc2:(a.toList == [105,110,116])=c:=(bP a [105,110,116]).symm.trans hc.symm;rw[<-hc] at HP3;clear hc;go_wp2_with fail
     refine (jV c eP w2).mono ?_;rintro e w3⟨rfl,rfl⟩;go_wp2;go_ret;rw[HP3.out];exact⟨rfl,HBW2.out⟩
   . have HP3:=hid (HP2.out.trans (if_pos rfl))
     obtain⟨c,hc⟩:∃c,c=bB a bA:=⟨_,rfl⟩
     have hc2:(a.toList == [])=c:=(bP a []).symm.trans hc.symm;rw[<-hc] at HP3;clear hc;go_wp2_with fail
     refine (jV (!c) fS w2).mono ?_;rintro e w3⟨rfl,rfl⟩;go_wp2;go_ret;rw[HP3.out];exact⟨rfl,HBW2.out⟩
def pQ(c y n:(ByteArray->ByteArray)->ByteArray):(ByteArray->ByteArray)->ByteArray:=fun M=>kW (bB (c M) fS&&bB (n M) (y M)) (y M)
theorem xB{c y n:Value}{f g k:(ByteArray->ByteArray)->ByteArray}(hc:jU c f)(hy:jU y g)(hn:jU n k):jU (iF c y n) (pQ f g k):=by
 obtain⟨T1,v1,u1,F1,rfl,m1,e1,_,c1⟩:=hc;obtain⟨T2,v2,u2,F2,rfl,m2,e2,_,c2⟩:=hy;obtain⟨T3,v3,u3,F3,rfl,m3,e3,_,c3⟩:=hn;refine⟨_,_,_,_,rfl,Hm _,Hn,by kernel_rfl,fun mv M w hM=>?_⟩;have hbl:=cG w (.cells #[.iface T1 v1,.iface T2 v2,.iface T3 v3] 293);have HBL:=hid hbl;have hN:=aI w (.cells #[.iface T1 v1,.iface T2 v2,.iface T3 v3] 293);have HN:=hid hN;have HC2:=hid (c2 mv M _ (hM.below hbl));have HC3:=hid (fun w' hb=>c3 mv M w' (hM.below (aF hbl hb)));have HC1:=hid (fun w' hb=>c1 mv M w' (hM.below (aF hbl hb)));have k0:=aA (i:=0) hN;have k1:=aA (i:=1) hN;have k2:=aA (i:=2) hN;clear c1 c2 c3 hM hbl hN;go_enter Tryz.func267,Tryz.ntmps267;go_wp2_with fail
 refine HC2.out.mono ?_;rintro e w1⟨rfl,hb1⟩;have hN1:=below_heap hb1 (aB HN.out) HN.out;have j0:=aA (i:=0) hN1;have j1:=aA (i:=1) hN1;have j2:=aA (i:=2) hN1;have HN1:=hid hN1;have HB1:=hid hb1;clear hN1 hb1 k0 k1 k2 HC2;obtain⟨b,hb⟩:∃b,b=g M:=⟨_,rfl⟩
 rw[<-hb];have HGZ:=hid hb;clear hb;go_wp2_with fail
 refine (HC1.out w1 HB1.out).mono ?_;rintro e w2⟨rfl,hb2⟩;have hN2:=below_heap hb2 (aB HN1.out) HN1.out;have i0:=aA (i:=0) hN2;have i1:=aA (i:=1) hN2;have i2:=aA (i:=2) hN2;have HB2:=hid (aF HB1.out hb2);clear hN2 hb2 j0 j1 j2 HC1;obtain⟨a,ha⟩:∃a,a=f M:=⟨_,rfl⟩
 rw[<-ha];have HFZ:=hid ha;clear ha;cases h1:(a.toList == [98,111,111,108]) with
 | false=>
  have HP:=hid (show pQ f g k M=kW false b by rw[pQ,<-HFZ.out,show bB a fS=false from (bP a [98,111,111,108]).trans h1,HGZ.out];rfl);go_wp2_with fail
  refine (jV false b w2).mono ?_;rintro e w3⟨rfl,rfl⟩;go_wp2;go_ret;rw[HP.out];exact⟨rfl,aF HBL.out HB2.out⟩
 | true=>
  go_wp2_with fail
  refine (HC3.out w2 HB2.out).mono ?_;rintro e w3⟨rfl,hb3⟩;have HB3:=hid (aF HB2.out hb3);clear hb3 i0 i1 i2 HC3;obtain⟨d,hd⟩:∃d,d=k M:=⟨_,rfl⟩
  rw[<-hd];have HKZ:=hid hd;clear hd;obtain⟨q,hq⟩:∃q,q=bB d b:=⟨_,rfl⟩
  have hq2:(d.toList==b.toList)=q:=hq.symm;have HP:=hid (show pQ f g k M=kW q b by rw[pQ,<-HFZ.out,show bB a fS=true from (bP a [98,111,111,108]).trans h1,<-HGZ.out,<-HKZ.out,<-hq];rfl);clear hq;go_wp2_with fail
  refine (jV q b w3).mono ?_;rintro e w4⟨rfl,rfl⟩;go_wp2;go_ret;rw[HP.out];exact⟨rfl,aF HBL.out HB3.out⟩
theorem hC:∀e:Ex,dY e->jU (fF e) (fun M=>fE M e)
 | ⟨.inl n,_⟩,_=>xA n
 | ⟨.inr (.inl b),_⟩,_=>Ac b
 | ⟨.inr (.inr (.inl t)),_⟩,_=>BC t
 | ⟨.inr (.inr (.inr (.inl op))),s'⟩,h=>BD h.1 (hC (s' false) h.2.1) (hC (s' true) h.2.2)
 | ⟨.inr (.inr (.inr (.inr _))),s'⟩,h=>xB (hC (s' none) h.1) (hC (s' (some false)) h.2.1) (hC (s' (some true)) h.2.2)
theorem CV{e:Ex}(h:dY e)(mv:Value)(M:ByteArray->ByteArray)(w:World)(hM:MY mv M w) :
 Calls Tryz.prog 104 #[fF e,mv] w fun e' w'=>e' = .returned (.string (fE M e))/\Below w.heap.size w w':=by
 obtain⟨T,v,u,F,hx,m1,e1,_,c1⟩:=hC e h;rw[hx];have hc:=c1 mv M w hM;simp only at hc;have HC:=hid hc;clear hc;clear c1 hM;obtain⟨r,hr⟩:∃r,r=fE M e:=⟨_,rfl⟩
 rw[<-hr] at HC ⊢;clear hr hx;go_enter Tryz.func104,Tryz.ntmps104;go_wp2_with fail
 refine HC.out.mono ?_;rintro e' w1⟨rfl,hb⟩;go_wp2;go_ret;exact⟨rfl,hb⟩

theorem EN{W0:World}{B bs lb:Nat}{fm:Value}{st:St V}{L:aM}{w:World}{E:eF V}(hE:dX W0 E bs fm)(hW:WS W0 B bs lb fm st L w st L [] w)(h00:W0.heap.size<=w.heap.size){f nm:ByteArray}{nc:Bool}{out:Out (V×List Lk)}{stE:St V}(hr:run E nc (AG f nm) [] st=some (out,stE)) :
 Calls Tryz.prog 75 #[ptr bs,ptr lb,.agg #[.int .i64 6,.string f,.string nm]] w (bM B st L bs lb fm 6 out stE w):=by
 obtain⟨its,fl,lk1,st1,hm,hr⟩:=lA hr;obtain⟨z,hz⟩:∃z,cU fl = .int .i64 z:=by cases fl <;> exact⟨_,rfl⟩
 have HB0:=hid (aG w (.cells #[.int .i64 6,.string f,.string nm] 99));have hA:=aI w (.cells #[.int .i64 6,.string f,.string nm] 99);have HNT:=hid (xW hE hW (Nat.le_refl _) h00 (nm:=nm) hm hz HB0.out hA (hW.mine (Nat.le_refl w.heap.size)) (fun cs e=>by injection e with _ e;exact absurd e (by decide)));have ka1:(w.alloc (.cells #[.int .i64 6,.string f,.string nm] 99)).cell? ⟨w.heap.size,1,none⟩=_:=aA (i:=1) hA;have ka2:(w.alloc (.cells #[.int .i64 6,.string f,.string nm] 99)).cell? ⟨w.heap.size,2,none⟩=_:=aA (i:=2) hA;have kd1:(w.alloc (.cells #[.int .i64 6,.string f,.string nm] 99)).drew.cell? ⟨w.heap.size,1,none⟩=_:=aA (i:=1) hA;have kd2:(w.alloc (.cells #[.int .i64 6,.string f,.string nm] 99)).drew.cell? ⟨w.heap.size,2,none⟩=_:=aA (i:=2) hA;have HR:=hid hr;have HE:=hid hE;clear hA hW hm hr hE;go_enter Tryz.func75,Tryz.ntmps75;go_wp2_with fail
 apply Cv (F:=fun (_:Option Addr) (_:Nat) (a2:Option Addr) (c2:Nat) (w2:World)=>MU W0 B bs lb fm st L w st L w st1 lk1 its fl nm w.heap.size (.cells #[.int .i64 6,.string f,.string nm] 99) a2 c2 w2);case main=>
  intro KEY;go_region_with (first
   | (refine (HNT.out _ ?hd).mono ?_;(case hd=>exact⟨rfl,rfl,rfl,rfl⟩);rintro e w1⟨ao,c,rfl,hk1,hn1⟩;have kb2:=aA (i:=2) hk1;have kb3:w1.drew.cell? ⟨w.heap.size,2,none⟩=_:=kb2)
   | (refine (hn1.out _ ?hd).mono ?_;(case hd=>exact⟨rfl,rfl,rfl,rfl⟩);rintro e w2⟨a2,c2,rfl,hq⟩))
  all_goals
   exact KEY ao c a2 c2 w2 hq.out
 case key=>
  intro ao c a2 c2 w2 hq;obtain⟨hk2,L1,hg,hkm,hrow,s,hs,hits⟩:=hq;have HG:=hid hg;have HIT:=hid (And.intro hs hits);have HK2:=hid hk2;have HKM:=hid hkm;have HROW:=hid hrow;have q1:=aA (i:=1) hk2;obtain⟨l,hl⟩:∃l,l=aU nm its:=⟨_,rfl⟩
  have hr:=HR.out;rw[<-hl] at hr ⊢;have HL:=hid hl;clear HNT ka1 ka2 kd1 kd2 HR hg hs hits hk2 hkm hrow hl;cases l with
  | nil=>
   obtain⟨rfl,rfl⟩:=eO hr;clear hr;simp only[List.length_nil];go_wp2;go_ret;exact HG.out.s.doneS (kind:=6) (by decide) (by decide) (by decide) _
  | cons i l=>
   cases l with
   | cons j l=>
    obtain⟨rfl,rfl⟩:=eO hr;simp only[List.length_cons];obtain⟨n,hn⟩:∃n,n=l.length+1+1:=⟨_,rfl⟩
    rw[<-hn];have h1:((n:Int)==1)=false:=by rw[beq_eq_false_iff_ne];omega
    clear hr hn;go_wp2;go_ret;exact HG.out.s.doneS (kind:=6) (by decide) (by decide) (by decide) _
   | nil=>
    simp only[List.length_cons,List.length_nil,Nat.zero_add];cases hex:i.ex with
    | none=>
     simp[hex,run] at hr
    | some e=>
     simp only[hex] at hr;have hrw:n5 L1 w2 a2 c2 [i]:=by have:=HROW.out;rwa[<-HL.out] at this
     obtain⟨gb,rfl,hc4⟩:=eJ hrw (a:=0) rfl (j:=4) (u:=fF e) (by simp[aP,cI,hex,Ja]);obtain⟨hno,hsz,hty⟩:=Bx HIT.out.1 HIT.out.2 HL.out hex;have HR3:=hid hr;have HRW:=hid hrw;obtain⟨ns,hns⟩:∃ns,ns=aL e []:=⟨_,rfl⟩
     have HNS:=hid (fun W=>(show Calls Tryz.prog 102 #[fF e] W fun e' w'=>∃ao c,e' = .returned (.slice ao ns.length c)/\w'.ownsRow W.heap.size 9 1 (.slice ao ns.length c) ns.length (ns.map .string)/\Below W.heap.size W w' by rw[hns];exact xN (e:=e) (by omega) W));rw[<-hns] at hr;have HNL:=hid (show ns.Nodup/\ns.length<=401 by
      rw[hns];exact⟨eE e [] (by simp),by have:=dR e [];simp at this;omega⟩)
     have HR3:=hid hr;have HRW:=hid hrw;have HNO:=hid hno;have HTY:=hid hty;have hM4:∀o,(w2.alloc o).cell? ⟨gb,4,none⟩=some (fF e):=fun o=>aK (aG w2 o) hc4;have hmk:∀W:World,(Instr.makeMap 195 none).run Tryz.prog W = .ok (.map (some W.heap.size)) (W.alloc (.map #[] 0)):=fun W=>@run_makeMap Tryz.prog 195 W;have HEX:=hid hex;clear hr hrw hno hty hex HROW hns;go_wp2_with fail
     refine (HNS.out _).mono ?_;rintro e2 w3⟨na,nc3,rfl,hown,hb3⟩;have hb2:=aG w2 (.map #[] 0);have HS:=hid (HG.out.below (aF hb2 hb3)).s;have HNW:=hid (gW (O:=L1.own) hown fun g hg=>HG.out.s.e.lt (by simp at hg;omega));have HMB:=hid (HG.out.s.mine (b:=w2.heap.size) (Nat.le_refl _));have HFM:=hid (HG.out.s.m.fresh (mb:=w2.heap.size) (Nat.le_refl _));have HW2:=hid (show w.heap.size<=w2.heap.size from HG.out.n.fr.size);have HLP:Hid (LP W0 B bs lb fm st L w w.heap.size (.cells #[.int .i64 6,.string f,.string nm] 99) w2.heap.size [] na nc3 ns (some ⟨gb,0,none⟩) c2 [i] st1 L1 lk1 w3):=hid ⟨HS.out,below_heap (aF hb2 hb3) (aB HK2.out) HK2.out,HKM.out,⟨#[],0,below_heap hb3 (aB (aI w2 (.map #[] 0))) (aI w2 (.map #[] 0)),rfl,by simp⟩,HMB.out,HNW.out,Row.below HRW.out (aF hb2 hb3)⟩;clear hown hb3 hb2 HS HNW HMB hc4 hM4 hmk q1 hsz;generalize w2.heap.size=mb at HLP HFM HW2 ⊢;go_wp2;go_loopg [29] ns.length (fun f' vi wr=>∃(k:Nat) (l:List (ByteArray×ByteArray×Int)) (M:ByteArray->ByteArray) (st':St V) (L':aM) (lk:List Lk),k+f'=ns.length/\vi = .int .i64 (k:Nat)/\LP W0 B bs lb fm st L w w.heap.size (.cells #[.int .i64 6,.string f,.string nm] 99) mb l na nc3 ns (some ⟨gb,0,none⟩) c2 [i] st' L' lk wr/\l.map (·.1)=ns.take k/\(∀x,(∃z,(x,M x,z)∈l)\/(x∉l.map (·.1)/\M x=bA))/\run E nc (mQ f (fun M=>.ret (.s (if bB (fE M e) i.typ then i.typ else eX))) (ns.drop k) M) lk st'=some (out,stE))
     case atStart=>exact⟨0,[],fun _=>bA,st1,L1,lk1,by omega,rfl,HLP.out,rfl,fun x=>.inr ⟨by simp,rfl⟩,HR3.out⟩
     case round=>
      clear HLP HR3;obtain⟨k,l,M,st',L',lk,hk,rfl,hLP,hl,hM,hr⟩:=hrel;have hkc:(0:Int)<=(k:Int):=by omega
      have hnl:=HNL.out.2;by_cases hlt:k<ns.length
      . have hlt2:(k:Int)<(ns.length:Int):=by omega
        obtain⟨nk,hnk⟩:∃nk,ns[k]? = some nk:=⟨ns[k],List.getElem?_eq_getElem hlt⟩
        have hd:ns.drop k=nk::ns.drop (k+1):=by
         rw[List.drop_eq_getElem_cons hlt];congr 1;rw[List.getElem?_eq_getElem hlt] at hnk;injection hnk
        rw[hd] at hr;obtain⟨g,rfl,hc⟩:=nD hLP.n k nk hnk;have HSA:=hid (MS HE.out hLP.s hLP.s.n.fr.size h00 hr);have kk1:=aA (i:=1) hLP.k;have HLPP:=hid hLP;have HFR:=hid (show nk∉l.map (·.1) by rw[hl];exact u9 HNL.out.1 hnk);have HLT:=hid (show l.map (·.1) ++ [nk]=ns.take (k+1) by rw[hl,List.take_add_one,hnk];rfl);have HMM:=hid hM;have HK:=hid hk;clear hLP hr hnk hd hk hl hM;go_wp2_with fail
        refine HSA.out.mono ?_;rintro e3 w4⟨t,rfl,hct⟩;obtain⟨L4,lk4,st4,hr4,hg4⟩:=hct.out;have hlp4:=HLPP.out.got (fun cs e=>by injection e with _ e;exact absurd e (by decide)) hg4;obtain⟨es,n4,Ej,hlp5⟩:=hlp4.put (fun es n e=>by cases e) HW2.out h00 HFM.out nk t 0 HFR.out;have HLP5:=hid hlp5;have HR4:=hid hr4;have HMM5:=hid (show ∀x,(∃z,(x,(if x=nk then t else M x),z)∈l ++ [(nk,t,(0:Int))])\/(x∉(l ++ [(nk,t,(0:Int))]).map (·.1)/\(if x=nk then t else M x)=bA) from fun x=>by
         by_cases hx:x=nk
         . subst hx
           exact .inl ⟨0,by simp⟩
         . rw[if_neg hx]
           rcases HMM.out x with ⟨z,h⟩|⟨h1,h2⟩
           . exact .inl ⟨z,List.mem_append_left _ h⟩
           . refine .inr ⟨?_,h2⟩
             rw[List.map_append,List.mem_append];rintro (h|h)
             . exact h1 h
             . simp at h;exact hx h)
        clear hct hr4 hg4 hlp4 hlp5 HSA HLPP hc kk1 HMM HFR;go_wp2;go_roundg (ns.length-(k+1))
        case rel=>exact⟨k+1,_,_,st4,L4,lk4,by have:=HK.out;omega,by go_num,HLP5.out,by rw[List.map_append];exact HLT.out,HMM5.out,HR4.out⟩
        case measure=>have:=HK.out;omega
      . have hke:k=ns.length:=by omega
        have hlt2:¬((k:Int)<(ns.length:Int)):=by omega
        rw[hke,List.drop_length] at hr;obtain⟨hout,rfl⟩:=eO hr;have HMY:=hid (show MY (.map (some mb)) M wr from ⟨fun W hW x=>by
         rcases hM x with ⟨z,h⟩|⟨h1,h2⟩
         . exact⟨z,sY (hLP.m.below hW) x (M x) z (.inl h)⟩
         . exact⟨0,sY (hLP.m.below hW) x (M x) 0 (.inr ⟨h1,h2,rfl⟩)⟩⟩)
        obtain⟨g1,hg1,hc4⟩:=eJ hLP.t (a:=0) rfl (j:=4) (u:=Ja i.ex) rfl;have hc5:wr.cell? ⟨g1,4,none⟩=some (fF e):=by
         have:=hc4
         simpa[HEX.out,Ja] using this
        obtain⟨g2,hg2,hc3⟩:=eJ hLP.t (a:=0) rfl (j:=3) (u:=.string i.typ) rfl;cases hg1;cases hg2;have HLPP:=hid hLP;have hty0:∀W,iU wr W->Calls Tryz.prog 104 #[fF e,.map (some mb)] W fun e' w'=>e' = .returned (.string (fE M e))/\Below wr.heap.size wr w':=fun W hW=>(CV HNO.out (.map (some mb)) M W (HMY.out.below hW.below)).mono fun e' w' ⟨h1,h2⟩=>⟨h1,aF hW.below h2⟩
        obtain⟨ty,hty1⟩:∃ty,ty=fE M e:=⟨_,rfl⟩
        obtain⟨it,hit⟩:∃it,it=i.typ:=⟨_,rfl⟩
        rw[<-hty1] at hty0 hout;rw[<-hit] at hc3 hout;have HOUT:=hid hout;have HTY0:=hid hty0;clear hLP hr hk hl hM hc4 hty0 hty1 hit hout;have hd5:wr.drew.cell? ⟨gb,4,none⟩=some (fF e):=hc5;have hd3:wr.drew.cell? ⟨gb,3,none⟩=some (.string it):=hc3;cases hcmp:(ty.toList==it.toList) with
        | true=>
         have HO2:=hid (show out = .ok (.s it,lk) by rw[HOUT.out,show bB ty it=true from hcmp];rfl);go_wp2_with fail
         go_region_with (refine (HTY0.out _ (by exact⟨rfl,rfl,rfl,rfl⟩)).mono ?_;rintro e3 w4⟨rfl,hb4⟩;have hc6:=aK hb4 hc3;have hd6:w4.drew.cell? ⟨gb,3,none⟩=some (.string it):=hc6;have HB4:=hid hb4)
         all_goals
          go_wp2;go_ret;have hb5:Below wr.heap.size wr _:=HB4.out;rw[HO2.out];exact (HLPP.out.s.below hb5).doneS (kind:=6) (by decide) (by decide) (by decide) _
        | false=>
         have HO2:=hid (show out = .ok (.s eX,lk) by rw[HOUT.out,show bB ty it=false from hcmp];rfl);go_wp2_with fail
         go_region_with (refine (HTY0.out _ (by exact⟨rfl,rfl,rfl,rfl⟩)).mono ?_;rintro e3 w4⟨rfl,hb4⟩;have hc6:=aK hb4 hc3;have hd6:w4.drew.cell? ⟨gb,3,none⟩=some (.string it):=hc6;have HB4:=hid hb4)
         all_goals
          go_wp2;go_ret;have hb5:Below wr.heap.size wr _:=HB4.out;rw[HO2.out];exact (HLPP.out.s.below hb5).doneS (kind:=6) (by decide) (by decide) (by decide) _
theorem xX:∀its:List cL,lF (its.map cI)=mP its
 | []=>rfl
 | i::l=>by
  have ih:=xX l;unfold lF mP at ih ⊢;rw[List.map_cons,List.filter_cons,List.filter_cons];show (if (i.kind==2)=true then _ else _:List It).map _=_;cases i.kind==2
  . simpa using ih
  . simp only[if_true,List.map_cons]
    rw[ih];rfl
theorem xY(its:List cL):(CO (its.map cI)).map (fun x=>(⟨x.toArray⟩:ByteArray))=iQ its:=by
 unfold CO iQ;rw[xX]
theorem vA{cs:Array Value}{xs:List Value}(h:∀(j:Nat) x,xs[j]? = some x->cs[j]? = some x):cs.toList.take xs.length=xs:=by
 apply List.ext_getElem?;intro j;by_cases hj:j<xs.length
 . rw[List.getElem?_take_of_lt hj,Array.getElem?_toList,h j _ (List.getElem?_eq_getElem hj),List.getElem?_eq_getElem hj]
 . rw[List.getElem?_eq_none (by omega:xs.length<=j),List.getElem?_eq_none]
   rw[List.length_take];omega
theorem Ad{W0:World}{B bs lb:Nat}{fm:Value}{st:St V}{L:aM}{w:World}{E:eF V}(hE:dX W0 E bs fm)(hW:WS W0 B bs lb fm st L w st L [] w)(h00:W0.heap.size<=w.heap.size){f nm:ByteArray}{nc:Bool}{out:Out (V×List Lk)}{st':St V}(hr:run E nc (p8 f fun its _=>.ret (.x (iQ its))) [] st=some (out,st')) :
 Calls Tryz.prog 71 #[ptr bs,ptr lb,.agg #[.int .i64 4,.string f,.string nm]] w (bM B st L bs lb fm 4 out st' w):=by
 obtain⟨its,fl,lk',st1,hm,hr⟩:=lA hr;obtain⟨rfl,rfl⟩:=eO hr;have HB0:=hid (aG w (.cells #[.int .i64 4,.string f,.string nm] 99));have hA:=aI w (.cells #[.int .i64 4,.string f,.string nm] 99);have a1:=aA (i:=1) hA;obtain⟨z,hz⟩:∃z,cU fl = .int .i64 z:=by cases fl <;> exact⟨_,rfl⟩
 have htr:=xG hE (hW.below HB0.out) (by simp) h00 hm;rw[hz] at htr;have HTR:=hid htr;clear hE hW hm hr hA htr;go_enter Tryz.func71,Tryz.ntmps71;go_wp2_with fail
 refine HTR.out.mono ?_;rintro e w1⟨ao,c,rfl,L',hg,hrow,s,hs,hits⟩;have hn:=l9 hs hits;have hex:=CP (its.map cI) (by simpa using hn) (fun i hi=>by
  obtain⟨j,_,rfl⟩:=List.mem_map.1 hi;exact nQ j) (.int .i64 z) ao c w1 (by simpa using pO hrow)
 rw[List.length_map] at hex;have HX:=hid hex;have HS:=hid hg.s;have HSZ:=hid (And.intro hs hits);clear hg hrow hs hn hits hex HTR;go_wp2_with fail
 refine HX.out.mono ?_;rintro e w2⟨hb,c2,hh⟩;have hd:∃ao2,e = .returned (.slice ao2 (iQ its).length c2)/\Row L'.own w2 9 (.slice ao2 (iQ its).length c2) (iQ its).length ((iQ its).map .string):=by
  have hlen:(iQ its).length=(CO (its.map cI)).length:=by rw[<-xY,List.length_map]
  rcases hh with ⟨h1,rfl⟩|⟨g,rfl,h2,⟨h3,cs,h4⟩,h5⟩
  . rw[h1] at hlen
    have h0:iQ its = []:=List.eq_nil_of_length_eq_zero hlen;rw[h0];exact⟨none,rfl,none,c2,rfl,Nat.zero_le _,fun h=>absurd h (by simp)⟩
  . rw[<-hlen] at h2 ⊢
    refine⟨some ⟨g,0,none⟩,rfl,some ⟨g,0,none⟩,c2,rfl,h2,fun _=>⟨g,cs,rfl,HS.out.e.lt h3,h4,vA fun j x hx=>?_⟩⟩;rw[List.getElem?_map] at hx;obtain⟨y,hy,rfl⟩:=Option.map_eq_some_iff.1 hx;rw[<-xY,List.getElem?_map] at hy;obtain⟨u,hu,rfl⟩:=Option.map_eq_some_iff.1 hy;have:=h5 j u hu
    rw[aA h4] at this;exact this
 obtain⟨ao2,rfl,hrow⟩:=hd;have HD:=hid ((HS.out.below hb).done (kind:=4) (v:=.x (iQ its)) (vs:=[.slice ao2 (iQ its).length c2]) ⟨⟨rfl,s,HSZ.out.1,by rw[<-HSZ.out.2]⟩,_,rfl,hrow⟩);clear hb hh hrow;obtain⟨n,hn⟩:∃n,n=(iQ its).length:=⟨_,rfl⟩
 rw[<-hn] at HD ⊢;clear hn;go_wp2;go_ret;exact HD.out
end Go.Proofs.YthibodlojlkppaaGreatDoor

import Derived.Test.YthibodlojlkppaaGreatDoorZ09
set_option linter.all false
set_option maxRecDepth 100000
set_option maxHeartbeats 40000000
namespace Go.Proofs.YthibodlojlkppaaGreatDoor
open Go.RowKit
variable [DecidableEq K] [LawfulBEq Lk]
def MV(W0:World)(B bs lb:Nat)(fm:Value)(st0:St V)(L0:aM)(w0:World)(st:St V)(L:aM)(w:World)(E:eF V)(out:Out (V×List Lk))(stE:St V)(c:ByteArray->Prog V):Ending->World->Prop:=fun e w'=>
 ∃t,e = .returned (.string t)/\t.size<=20/\Hid (∃L' lk' st',run E true (c t) lk' st'=some (out,stE)/\mZ W0 B bs lb fm st0 L0 w0 st L w st' L' lk' w')
theorem CQ(v:ByteArray):(fT bA v).size<=20:=by
 unfold fT;split
 . rename_i h
   rw[G0] at h;unfold fG at h;split at h
   . rename_i e;rw[aZ.1 e];decide
   split at h
   . rename_i e;rw[aZ.1 e];decide
   split at h
   . rename_i e;rw[aZ.1 e];decide
   . omega
 . decide
theorem LC{W0:World}{B bs lb:Nat}{fm:Value}{st0 st:St V}{L0 L:aM}{w0 w:World}{lk:List Lk}{E:eF V}(hE:dX W0 E bs fm)(hW:WS W0 B bs lb fm st0 L0 w0 st L lk w){f:ByteArray}{its:List cL}{ao:Option Addr}{ac:Nat}(hT:n5 L w ao ac its)(hn:its.length<=401){z:Int}{i:cL}{x:Value}(hx:x = .nilIface\/∃T v,x = .iface T v){c:ByteArray->Prog V}{out:Out (V×List Lk)}{stE:St V}(hr:run E true (kP f its i c) lk st=some (out,stE)) :
 Calls Tryz.prog 110 #[ptr bs,ptr lb,.string f,.agg #[.slice ao its.length ac,.int .i64 z],.agg #[.int .i64 i.kind,.int .i64 i.num,.string i.name,.string i.typ,x]] w (MV W0 B bs lb fm st0 L0 w0 st L w E out stE c):=by
 have hb0:Below w.heap.size w ((w.alloc (.cells #[.slice ao its.length ac,.int .i64 z] 87)).alloc (.cells #[.int .i64 i.kind,.int .i64 i.num,.string i.name,.string i.typ,x] 137)):=(aG w _).alloc (by simp) _;have hT0:=aC (.cells #[.int .i64 i.kind,.int .i64 i.num,.string i.name,.string i.typ,x] 137) (aI w (.cells #[.slice ao its.length ac,.int .i64 z] 87));have hA:=aI (w.alloc (.cells #[.slice ao its.length ac,.int .i64 z] 87)) (.cells #[.int .i64 i.kind,.int .i64 i.num,.string i.name,.string i.typ,x] 137);rw[show (w.alloc (.cells #[.slice ao its.length ac,.int .i64 z] 87)).heap.size=w.heap.size+1 from by simp] at hA;cases hk:(i.kind==0) with
 | true=>
  unfold kP at hr;rw[if_pos hk] at hr;have hk0:i.kind=0:=by simpa using hk
  rw[hk0] at hA hb0 ⊢;obtain⟨v,lk1,st1,hm,hr⟩:=mY (by simp) hr;have a0:=aA (i:=0) hA;have a2:=aA (i:=2) hA;have HKN:=hid (GF hE (hW.below hb0) hm);have HB:=hid hb0;have HR:=hid hr;clear hE hW hr hm hk hT hk0 hb0 hA hT0;go_enter Tryz.func110,Tryz.ntmps110;go_wp2_with fail
  refine HKN.out.mono ?_;rintro e w1⟨rfl,L1,hg⟩;have HG:=hid (hg.lift HB.out);have hr:=HR.out;clear hg HKN;cases hv:(v.toList == [121,101,115]) with
  | true=>
   rw[if_pos (show bB v tJ=true from (bP v [121,101,115]).trans hv)] at hr;have HR2:=hid hr;clear hr HR;go_wp2;go_ret;exact⟨_,rfl,by decide,hid ⟨L1,lk1,st1,HR2.out,HG.out⟩⟩
  | false=>
   rw[if_neg (by rw[show bB v tJ=false from (bP v [121,101,115]).trans hv];exact Bool.noConfusion)] at hr;have HR2:=hid hr;clear hr HR;go_wp2;go_ret;exact⟨_,rfl,by decide,hid ⟨L1,lk1,st1,HR2.out,HG.out⟩⟩
 | false=>
  unfold kP at hr;rw[if_neg (by rw[hk];exact Bool.noConfusion)] at hr;have hk0:((i.kind:Int)==0)=false:=by
   rw[beq_eq_false_iff_ne] at hk ⊢;omega
  have a0:=aA (i:=0) hA;have a2:=aA (i:=2) hA;have t0:=aA (i:=0) hT0;have t1:=aA (i:=1) hT0;have HNA:=hid (fun W (hb:Below _ _ W)=>Aa hT hn i.name (.int .i64 z) W (aF hb0 hb));have HI:=hid hA;have HW:=hid (hW.below hb0);have HB:=hid hb0;have HR:=hid hr;have HE:=hid hE;obtain⟨n,hnn⟩:∃n,n=(aU i.name its).length:=⟨_,rfl⟩
  rw[<-hnn] at HNA HR;have hmI:gV L lb (w.heap.size+1):=hW.mine (by omega);have HMI:=hid hmI;clear hE hW hr hk hT hb0 hA hT0 hnn hmI;go_enter Tryz.func110,Tryz.ntmps110;go_wp2_with fail
  refine (HNA.out _ (Below.refl _ _)).mono ?_;rintro e w1⟨a2',c2,rfl,_,hb1⟩;have hI1:=below_heap hb1 (aB HI.out) HI.out;have b2:=aA (i:=2) hI1;have HB1:=hid hb1;have HI1:=hid hI1;have HW1:=hid (HW.out.below hb1);have hr:=HR.out;clear hb1 hI1 HNA HR;by_cases h2:1<n
  . have h2':(1:Int)<(n:Int):=by omega
    rw[if_pos h2] at hr;have HR2:=hid hr;clear hr;go_wp2;go_ret;exact⟨_,rfl,by decide,hid ⟨L,lk,st,HR2.out,⟨cQ.refl _ _ _ _ _ |>.below (aF HB.out HB1.out),HW1.out⟩⟩⟩
  . have h2':¬((1:Int)<(n:Int)):=by omega
    rw[if_neg h2] at hr;obtain⟨ty,lk2,st2,hm,hr⟩:=mY (by simp) hr;have HTY:=hid (GH HE.out HW1.out hm);have HR2:=hid hr;clear hr hm h2;go_wp2_with fail
    refine HTY.out.mono ?_;rintro e w2⟨rfl,L2,hg⟩;obtain⟨hI2,hm2⟩:=hg.n.mine HI1.out HMI.out (fun cs e=>by injection e with _ e;exact absurd e (by decide));have c2':=aA (i:=2) hI2;have HG:=hid ((hg.lift HB1.out).lift HB.out);have hr:=HR2.out;clear hg hI2 hm2 HTY HR2;cases hv:(ty.toList == [98,97,100]) with
    | true=>
     rw[if_pos (show bB ty eX=true from (bP ty [98,97,100]).trans hv)] at hr;have HR3:=hid hr;clear hr;go_wp2;go_ret;exact⟨_,rfl,by decide,hid ⟨L2,lk2,st2,HR3.out,HG.out⟩⟩
    | false=>
     rw[if_neg (by rw[show bB ty eX=false from (bP ty [98,97,100]).trans hv];exact Bool.noConfusion)] at hr;rcases Bd hr with ⟨v,lk3,st3,hm,hr⟩|⟨cc,hm,hout,hnc⟩
     . have HVA:=hid (CA HE.out HG.out.s hm)
       have HR3:=hid hr;clear hr hm;go_wp2_with fail
       refine HVA.out.mono ?_;rintro e w3⟨rfl,L3,hg3⟩;have HG3:=hid (HG.out.trans hg3);clear hg3 HVA;go_wp2_with fail
       refine (xS _ v w3).mono ?_;rintro e w4⟨rfl,rfl⟩;go_wp2;go_ret;exact⟨_,rfl,CQ v,hid ⟨L3,lk3,st3,HR3.out,HG3.out⟩⟩
     . cases hnc
def Hg(T:TypeId):Bool:=T==87||T==82||T==119||T==5
def gR(w w':World):Prop:=(∀(b:Nat) (cs:Array Value) (T:TypeId),Hg T=false->w.heap[b]? = some (.cells cs T)->w'.heap[b]? = some (.cells cs T))/\∀(b:Nat) (es:Array MapEntry) (n:Nat),w.heap[b]? = some (.map es n)->w'.heap[b]? = some (.map es n)
theorem LD(k:K):Hg (TB k)=false:=by
 unfold TB;repeat' split
 all_goals decide
theorem Row.stays{O:Nat->Prop}{w w':World}{T:TypeId}{v:Value}{n:Nat}{xs:List Value}(h:Row O w T v n xs)(hT:Hg T=false)(hk:gR w w'):Row O w' T v n xs:=h.keepT fun b cs=>hk.1 b cs T hT
theorem bO.stays{O:Nat->Prop}{w w':World}{kind:Nat}{x:Option V}{vs:List Value}(h:bO O w kind x vs)(hk:gR w w'):bO O w' kind x vs:=by
 match x,h with
 | some (.inl l),⟨a,v,b,c⟩=>exact⟨a,v,b,c.stays (by decide) hk⟩
 | some (.inr (.inl (its,f))),⟨a,v,b,c⟩=>exact⟨a,v,b,c.stays (by decide) hk⟩
 | some (.inr (.inr (.inl l))),⟨a,v,b,c⟩=>exact⟨a,v,b,c.stays (by decide) hk⟩
 | some (.inr (.inr (.inr b))),h=>exact h
 | none,h=>exact h
theorem cV.stays{st:St V}{L:aM}{lp:Option K}{bs:Nat}{fm q sm bg kv:Value}{arr:List K}{w w':World}(h:cV st L lp bs fm q sm bg kv arr w)(hs:w.heap.size<=w'.heap.size)(hk:gR w w'):cV st L lp bs fm q sm bg kv arr w':=by
 refine⟨⟨hk.1 _ _ _ (by decide) h.s,h.bo,fun b hb=>Nat.lt_of_lt_of_le (h.olt b hb) hs,h.sr.keep hk.2,fun f c hf=>⟨(h.srb f c hf).1,hk.1 _ _ _ (by decide) (h.srb f c hf).2⟩,h.sri,h.qm,h.sm.keep hk.2,h.bg.keep fun b cs=>hk.1 b cs _ (by decide),h.kv.keep fun b cs=>hk.1 b cs _ (by decide),h.perm,h.nd,h.kl,h.ex,fun j n hj=>?_⟩,h.heap⟩;have hc:=h.cell j n hj;obtain⟨x,vs,a,b⟩:=hc.ex;exact⟨⟨x,vs,hk.1 _ _ _ (LD j) a,b.stays hk⟩,hc.own⟩
theorem WS.stays{W0:World}{B bs lb:Nat}{fm:Value}{st0 st:St V}{L0 L:aM}{w0 w w':World}{lk:List Lk}(h:WS W0 B bs lb fm st0 L0 w0 st L lk w)(h00:W0.heap.size<=w0.heap.size)(hb:Below w0.heap.size w w')(hk:gR w w'):WS W0 B bs lb fm st0 L0 w0 st L lk w':=by
 obtain⟨hE,hK,hM,hl0,hb0,hN⟩:=h;obtain⟨q,sm,bg,kv,arr,hE⟩:=hE;obtain⟨lv,l1,l2,l3⟩:=hK.blk;refine⟨⟨q,sm,bg,kv,arr,hE.stays hb.size hk⟩,⟨⟨lv,hk.1 _ _ _ (by decide) l1,bJ l2 fun g hg=>?_,l3⟩,hK.nb,Nat.le_trans hK.ge hb.size,hK.ex,hK.len⟩,⟨hM.sm,hM.mp.imp id fun⟨b,es,n,h1,h2,h3,h4⟩=>⟨b,es,n,h1,h2,hk.2 b es n h3,h4⟩,hM.low.trans (cO h00 hb),hM.ow⟩,hl0,hb0,⟨hN.bk,hN.sb,hN.own,⟨hb.os.trans hN.fr.os,hb.tape.trans hN.fr.tape,hb.output.trans hN.fr.output,Nat.le_trans hN.fr.size hb.size,fun k hk hn=>(hb.block k hk).trans (hN.fr.block k hk hn)⟩⟩⟩;obtain⟨cur,e3⟩:=jG l2 hg;rw[e3];exact hk.1 _ _ _ (by decide) e3
theorem gR.set{w:World}{b:Nat}{cs:Array Value}{T:TypeId}(hb:w.heap[b]? = some (.cells cs T))(hT:Hg T=true)(i:Nat)(u:Value):gR w (w.setCell ⟨b,i,none⟩ u):=⟨fun c cs' T' hT' hc=>(aD (fun e=>by
 rw[e,hb] at hc;injection hc with hc;injection hc with _ hc;rw[hc,hT'] at hT;cases hT) _).trans hc,fun c es n hc=>(aD (fun e=>by rw[e,hb] at hc;injection hc with hc;cases hc) _).trans hc⟩
theorem gR.below{w w':World}(hb:Below w.heap.size w w'):gR w w':=⟨fun _ _ _ _ h=>below_heap hb (aB h) h,fun _ _ _ h=>below_heap hb (aB h) h⟩
theorem gR.trans{a b c:World}(h:gR a b)(k:gR b c):gR a c:=⟨fun _ _ _ hT h'=>k.1 _ _ _ hT (h.1 _ _ _ hT h'),fun _ _ _ h'=>k.2 _ _ _ (h.2 _ _ _ h')⟩
section
variable {W0:World} {E:eF V} {B bs lb:Nat} {fm:Value} {st0 st st1 st2:St V} {L0 L:aM} {w0 w:World} {lk lk1 lk2:List Lk} {nc:Bool} {l:List Tok} {its:List cL} {fl:Option Nat}
def PQ(W0:World)(B bs lb:Nat)(fm:Value)(st0:St V)(L0:aM)(w0:World)(st:St V)(L:aM)(w:World)(st1:St V)(lk1:List Lk)(l:List Tok)(ta:Option Addr)(tc:Nat)(its:List cL)(fl:Option Nat)(ao:Option Addr)(c:Nat)(P:Nat->Prop)(w9:World):Prop:=
 ∃L',mZ W0 B bs lb fm st0 L0 w0 st L w st1 L' lk1 w9/\Row L'.own w9 121 (.slice ta l.length tc) l.length (aV l)/\n5 L' w9 ao c its/\(∃s:ByteArray,s.size<=400/\l=aN s)/\(∃s:ByteArray,s.size<=400/\(its,fl)=bY (aN s))/\∀b,P b->gV L' lb b
theorem jD{a w:World}(h:Below a.heap.size a w)(o:Obj):Below a.heap.size a (w.alloc o):=h.alloc h.size o
theorem Ab{a w:World}(h:Below a.heap.size a w):Below a.heap.size a w.drew:=⟨h.os,h.tape,h.output,h.size,h.block⟩
theorem LF(hE:dX W0 E bs fm)(hW:WS W0 B bs lb fm st0 L0 w0 st L lk w)(h0:w0.heap.size<=w.heap.size)(h00:W0.heap.size<=w0.heap.size){f:ByteArray}(hm:cE E nc ⟨2,f,bA⟩ lk st=some (.ok (.t l,lk1),st1))(hm2:cE E nc ⟨3,f,bA⟩ lk1 st1=some (.ok (.r its fl,lk2),st2)){A:World}(hA:Below w.heap.size w A){kb:Nat}{ko:Array Value}(hkb:w.heap.size<=kb)(hk:A.heap[kb]? = some (.cells ko 99)){z:Int}(hz:cU fl = .int .i64 z)(W:World)(hb:Below A.heap.size A W) :
 Calls Tryz.prog 39 #[ptr bs,ptr lb,.string f] W fun e w1=>∃ta tc,e = .returned (.slice ta l.length tc)/\w1.heap[kb]? = some (.cells ko 99)/\Hid (∀(b:Nat) (cs:Array Value) (T:TypeId),T≠169->w.heap.size<=b->W.heap[b]? = some (.cells cs T)->w1.heap[b]? = some (.cells cs T))/\
  Hid (∀W2,Below w1.heap.size w1 W2->Calls Tryz.prog 41 #[ptr bs,ptr lb,.string f] W2 fun e w2=>∃ao c,e = .returned (.agg #[.slice ao its.length c,.int .i64 z])/\w2.heap[kb]? = some (.cells ko 99)/\Hid (∀(b:Nat) (cs:Array Value) (T:TypeId),T≠169->(w.heap.size<=b/\b<W.heap.size)\/w1.heap.size<=b->W2.heap[b]? = some (.cells cs T)->w2.heap[b]? = some (.cells cs T))/\
   Hid (PQ W0 B bs lb fm st0 L0 w0 st L w st2 lk2 l ta tc its fl ao c (fun b=>(w.heap.size<=b/\b<W.heap.size)\/(w1.heap.size<=b/\b<W2.heap.size)\/w2.heap.size<=b) w2)):=by
 have hkW:W.heap[kb]? = some (.cells ko 99):=below_heap hb (aB hk) hk;have hb:=aF hA hb;refine (zQ hE (hW.below hb) hm).mono ?_;rintro e w1⟨ta,tc,rfl,L1,hg,hrow,hs⟩;have hsz:=hg.n.fr.size;have hszb:=hb.size;have hK:∀(b:Nat) (cs:Array Value) (T:TypeId),T≠169->w.heap.size<=b->W.heap[b]? = some (.cells cs T)->w1.heap[b]? = some (.cells cs T):=fun b cs T hT h1 h2=>(hg.n.mine h2 (hW.mine h1) (fun cs e=>by injection e with _ e;exact hT e)).1;have hk1:=hK kb _ _ (by decide) hkb hkW;refine⟨ta,tc,rfl,hk1,hid hK,hid fun W2 hb2=>?_⟩;have hsz2:=hb2.size;refine (xG hE (hg.s.below hb2) (by omega) h00 hm2).mono ?_;rintro e w2⟨ao,c,rfl,L2,hg2,hrow2,hs2⟩;have hsz3:=hg2.n.fr.size;have hmi1:∀b,(w.heap.size<=b/\b<W.heap.size)\/w1.heap.size<=b->gV L1 lb b:=fun b hc=>by
  rcases hc with ⟨h1,h2⟩|h1
  . refine⟨fun ho=>?_,(hW.mine h1).2⟩
    rcases hg.n.own b ho with h3|h3
    . exact (hW.mine h1).1 h3
    . omega
  . exact hg.s.mine h1
 have hmi2:∀b,(w.heap.size<=b/\b<W.heap.size)\/(w1.heap.size<=b/\b<W2.heap.size)\/w2.heap.size<=b->gV L2 lb b:=fun b hc=>by
  have key:(w.heap.size<=b/\b<W.heap.size)\/w1.heap.size<=b->b<W2.heap.size->gV L2 lb b:=fun h1 h2=>by
   refine⟨fun ho=>?_,(hmi1 b h1).2⟩;rcases hg2.n.own b ho with h3|h3
   . exact (hmi1 b h1).1 h3
   . omega
  rcases hc with h1|h1|h1
  . exact key (.inl h1) (by omega)
  . exact key (.inr h1.1) h1.2
  . exact hg2.s.mine h1
 have hm2:∀(b:Nat) (cs:Array Value) (T:TypeId),T≠169->(w.heap.size<=b/\b<W.heap.size)\/w1.heap.size<=b->W2.heap[b]? = some (.cells cs T)->w2.heap[b]? = some (.cells cs T):=fun b cs T hT h1 h2=>
  (hg2.n.mine h2 (hmi1 b h1) (fun cs e=>by injection e with _ e;exact hT e)).1
 have hk2:=hm2 kb _ _ (by decide) (.inl ⟨hkb,aB hkW⟩) (below_heap hb2 (aB hk1) hk1);rw[hz];refine⟨ao,c,rfl,hk2,hid hm2,hid ⟨L2,(hg.lift hb).trans ⟨(hg2.lift hb2).n,hg2.s⟩,?_,hrow2,hs,hs2,hmi2⟩⟩;obtain⟨lv,hl,_⟩:=(hg.s.below hb2).k.blk;exact Row.wnext (Row.below hrow hb2) hg2.n hl (by decide) (by decide)
end
section
variable {P:Program} {w:World}
theorem wY(base:Nat)(t u ty e:TypeId)(i:TypeInfo)(ht:P.underlying t=some (.slice e))(hu:P.underlying u=some .string)(hi:P.info? e=some i)(hz:i.zero=some (.int .u8 0))
 (hsize:i.size=1) (hby:i.bytes=1) (v:Value) (n:Nat) (xs:List Value) (hown:w.ownsRow base e 1 v n xs) (s:ByteArray)
 (h63:n+s.size<=maxLen) (hbytes:n+s.size<=140737488355328) (hbase:base<=w.heap.size) :
 ∃v' w',(Builtin.append_ #[t,u] ty #[v,.string s]).run P w = .ok v' w'/\w'.ownsRow base e 1 v' (n+s.size) (xs++Lib.strCells s)/\w.grownBy w' v.ownBlock/\(v'.ownBlock=v.ownBlock\/v'.ownBlock=some w.heap.size):=by
 obtain⟨v',w',hr,h1,h2,h3⟩:=Lib.run_append_own_string (P:=P) w base t u ty e i ht hu hi hz hsize hby v n xs hown s h63 hbytes hbase;refine⟨v',w',hr,h1,h2,?_⟩;have hxl:xs.length=n:=by simpa using hown.1
 rcases id hown.2 with ⟨rfl,rfl⟩|⟨g,cap,cur,rfl,hbg,hg,hnc,hcm,hcs,htake⟩
 . by_cases hm:s.size=0
   . left;rw[h3.2 ⟨rfl,hm⟩]
   . have hr2:=run_append_nil_string (P:=P) w t u ty e i (.int .u8 0) ht hu hi hz s (by omega) (by simp only[maxLen] at h63;omega) (by rw[hby];omega)
     rw[hr] at hr2;injection hr2 with e1 _;right;rw[e1];rfl
 . by_cases hroom:n+s.size<=cap
   . have hcs':cur.size=cap:=by simpa using hcs
     have hr2:=Lib.run_append_room_string (P:=P) w t u ty e i ht hu hi hsize g n cap cur hg s hroom (by omega);rw[hr] at hr2;injection hr2 with e1 _;left;rw[e1];rfl
   . have hr2:=Lib.run_append_grow_string (P:=P) w t u ty e i (.int .u8 0) ht hu hi hz ⟨g,0,none⟩ n cap xs (by rw[hsize];simpa using hxl) (hown.cells (g:=g) rfl) s (by omega) (by simp only[maxLen] at h63;omega) (by rw[hby];exact growslice_fits (by omega) (by omega))
     rw[hr] at hr2;injection hr2 with e1 _;right;rw[e1];rfl
theorem nE{ops:Array Oper}{rest:List Oper}{o:Oper}{a:Act}{Q:Exit->Act->World->Prop}(hgd:o.guard=none)(sl x:Operand)(t u:TypeId)
 (ho:o.op = .call {callee:=.builtin .append,args:=#[sl,x],argTypes:=#[t,u]})
 (base:Nat) (e:TypeId) (i:TypeInfo) (ht:P.underlying t=some (.slice e)) (hu:P.underlying u=some .string) (hi:P.info? e=some i) (hz:i.zero=some (.int .u8 0))
 (hsize:i.size=1) (hby:i.bytes=1)
 (v:Value) (n:Nat) (xs:List Value) (hs:a.eval sl=v) (hown:w.ownsRow base e 1 v n xs) (s:ByteArray) (hx:a.eval x = .string s)
 (h63:n+s.size<=maxLen) (hbytes:n+s.size<=140737488355328) (hbase:base<=w.heap.size)
 (h:∀v' w',w'.ownsRow base e 1 v' (n+s.size) (xs++Lib.strCells s)->w.grownBy w' v.ownBlock->(v'.ownBlock=v.ownBlock\/v'.ownBlock=some w.heap.size)->wpList P ops Q rest (a.put o.dst v') w'):wpList P ops Q (o::rest) a w:=by
 refine wpList_plain hgd fun K hK=>?_;obtain⟨v',w',hr,h2,h3,h4⟩:=wY (P:=P) base t u o.type e i ht hu hi hz hsize hby v n xs hown s h63 hbytes hbase;unfold Oper.wp execOp;simp only[ho,resolve,invoke,builtin,Sem.run_bind,Sem.run_pure,Result.andThen_ok,List.map_toArray,List.map_cons,List.map_nil,hs,hx,hr];exact hK _ _ (h v' w' h2 h3 h4)
end
structure MB (N ob:Nat) (s:ByteArray) (v:Value) (w:World):Prop where
 hd:∃p,(p = .pointer none\/p = .pointer (some ⟨ob,0,none⟩))/\w.heap[ob]? = some (.cells #[p,v] 119)
 row:w.ownsRow N 5 1 v s.size (Lib.strCells s)
 ne:v.ownBlock≠some ob
 lo:N<=ob
structure KP (N ob:Nat) (v v':Value) (w w':World):Prop where
 low:Below N w w'
 far:∀k,k<w.heap.size->k≠ob->v.ownBlock≠some k->w'.heap[k]? = w.heap[k]?
 loc:∀g,v'.ownBlock=some g->v.ownBlock=some g\/w.heap.size<=g
theorem JU{N ob:Nat}{t:ByteArray}{v:Value}{w:World}(h:MB N ob t v w)(s:ByteArray)(hlen:t.size+s.size<=140737488355328) :
 Calls Tryz.prog 61 #[.pointer (some ⟨ob,0,none⟩),.string s] w fun e w'=>e = .returned (.tuple #[.int .i64 s.size,.nilIface])/\Hid (∃v',MB N ob (t++s) v' w'/\KP N ob v v' w w'):=by
 obtain⟨i0,hi,hz0,hz1,hz2⟩:=info_parts CN;obtain⟨⟨p,hp,hb⟩,hown,hne,hlo⟩:=h;have hCK:Calls Tryz.prog 91 #[.pointer (some ⟨ob,0,none⟩)] w fun e w1=>e = .returned (.tuple #[])/\w1.heap[ob]? = some (.cells #[.pointer (some ⟨ob,0,none⟩),v] 119)/\w1.ownsRow N 5 1 v t.size (Lib.strCells t)/\Below N w w1/\w1.heap.size=w.heap.size/\∀k,k≠ob->w1.heap[k]? = w.heap[k]?:=by
  rcases hp with rfl|rfl
  . refine (pN ob w (aA (i:=0) hb) (by simp[World.shape?,hb]) (aE hb)).mono ?_
    rintro e w'⟨rfl,rfl⟩;exact⟨rfl,aH (i:=0) hb _,bJ hown fun g hg=>aD (fun e=>hne (by rw[<-e];exact hg)) _,(Below.refl N w).setCell (p:=⟨ob,0,none⟩) hlo _,by simp,fun k hk=>aD hk _⟩
  . refine (rJ ob w (aA (i:=0) hb)).mono ?_
    rintro e w'⟨rfl,rfl⟩;exact⟨rfl,hb,hown,Below.refl N _,rfl,fun _ _=>rfl⟩
 have HCK:=hid hCK;have HLT:=hid (aB hb);have hsz:(Lib.strCells t).length=t.size:=Lib.strCells_length t;clear hCK hown hb hp;go_enter Tryz.func61,Tryz.ntmps61;go_wp2_with (go_at_call 91;refine HCK.out.mono ?_)
 rintro e w1⟨rfl,hbk,hown,hb1,hs1,hf1⟩;have hlt:=aB hbk;have c1:w1.cell? ⟨ob,1,none⟩=some v:=aA hbk;go_wp2_with (at_builtin;refine nE rfl _ _ 117 9 rfl N 5 i0 Tryz.underlying117 Tryz.underlying9 hi hz0 hz1 hz2 _ _ _ rfl hown s rfl ?c3 ?c4 ?c5 ?_)
 case c3=>unfold maxLen;omega
 case c4=>omega
 case c5=>omega
 intro v' w2 hown' hgrow hloc;have hb2:w2.heap[ob]? = some (.cells #[.pointer (some ⟨ob,0,none⟩),v] 119 (0,0)):=by
  rw[hgrow.block ob (by omega) (fun e=>hne e.symm)];exact hbk
 have d1:w2.cell? ⟨ob,1,none⟩=some v:=aA hb2;have f1:w2.frozen? ⟨ob,1,none⟩=false:=aE hb2;obtain⟨ao,cap,rfl⟩:∃ao cap,v' = .slice ao (t.size+s.size) cap:=by
  rcases hown'.2 with ⟨hv,h0⟩|⟨g,cap,cur,hv,_⟩
  . exact⟨none,0,by rw[hv,h0]⟩
  . exact⟨_,_,hv⟩
 have hne':(Value.slice ao (t.size+s.size) cap).ownBlock≠some ob:=fun e=>by
  rcases hloc with h1|h1
  . exact hne (h1.symm.trans e)
  . have:=Option.some.inj (h1.symm.trans e);omega
 have HF:=hid (show ∃v',MB N ob (t++s) v' (w2.setCell ⟨ob,1,none⟩ (.slice ao (t.size+s.size) cap))/\KP N ob v v' w (w2.setCell ⟨ob,1,none⟩ (.slice ao (t.size+s.size) cap)) from by
  refine⟨_,⟨⟨_,.inr rfl,aH (i:=1) hb2 _⟩,?_,hne',hlo⟩,?_,?_,?_⟩
  . have h1:=bJ (w':=w2.setCell ⟨ob,1,none⟩ (.slice ao (t.size+s.size) cap)) hown' fun g hg=>aD (fun e=>hne' (by rw[<-e];exact hg)) _
    rw[ByteArray.size_append,show Lib.strCells (t++s)=Lib.strCells t++Lib.strCells s from by simp[Lib.strCells]];exact h1
  . exact (hb1.grown hgrow (by omega) (fun k hk=>(hown.lt k hk).1)).setCell (p:=⟨ob,1,none⟩) hlo _
  . intro k hk hko hvk
    rw[aD hko,hgrow.block k (by omega) (fun e=>hvk e.symm),hf1 k hko]
  . intro g hg
    rcases hloc with h1|h1
    . exact .inl (h1.symm.trans hg)
    . have:=Option.some.inj (h1.symm.trans hg)
      right;omega)
 clear hown' hgrow hloc hne';go_wp2;go_ret2;exact⟨rfl,HF⟩
theorem EJ(n:Nat):(Lib.decDigits n).length<=n+1:=by
 induction n using Nat.strongRecOn with
 | _ n ih=>
  rw[Lib.decDigits];split
  . simp
  . have:=ih (n / 10) (by omega)
    simp;omega
theorem nU(n:Nat)(h:n<=1000):(kE n).size<=1001:=by
 have h1:(kE n).size=(Lib.decDigits n).length:=by
  unfold kE Lib.itoa;rw[if_neg (by omega)];simp[ByteArray.size]
 have:=EJ n
 omega
theorem DZ(n:Nat)(h:n<=1000)(w:World)(hp:PT w.heap.size w) :
 Calls Tryz.prog 12 #[.int .i64 n] w fun e w1=>e = .returned (.string (kE n))/\Below w.heap.size w w1:=by
 refine (Tryz.strconv_Itoa (n:Int) (by omega) (by omega) w (Lib.TabBelow.here hp)).mono ?_;rintro e w1⟨rfl,k,os,rfl⟩;exact⟨rfl,cH w k os⟩
theorem LG{w2 w w':World}{p0 p1 p2:Addr}{v0 v1 v2:Value}(h:Below w2.heap.size w2 w/\w.cell? p0=some v0/\w.cell? p1=some v1/\w.cell? p2=some v2)(hb:Below w.heap.size w w') :
 Below w2.heap.size w2 w'/\w'.cell? p0=some v0/\w'.cell? p1=some v1/\w'.cell? p2=some v2:=⟨aF h.1 hb,aK hb h.2.1,aK hb h.2.2.1,aK hb h.2.2.2⟩
theorem MB.below{N ob:Nat}{s:ByteArray}{v:Value}{w w':World}(h:MB N ob s v w)(hb:Below w.heap.size w w'):MB N ob s v w':=by
 obtain⟨⟨p,h1,h2⟩,h3,h4,h5⟩:=h;exact⟨⟨p,h1,below_heap hb (aB h2) h2⟩,jF h3 fun g _ hg=>hb.block g hg,h4,h5⟩
theorem MB.lt{N ob:Nat}{s:ByteArray}{v:Value}{w:World}(h:MB N ob s v w):ob<w.heap.size:=by
 obtain⟨⟨p,h1,h2⟩,_⟩:=h;exact aB h2
theorem KP.from{N ob:Nat}{v v':Value}{w w1 w':World}(hb:Below w.heap.size w w1)(hN:N<=w.heap.size)(h:KP N ob v v' w1 w'):KP N ob v v' w w':=
 ⟨(cO hN hb).trans h.low,fun k hk h1 h2=>(h.far k (Nat.lt_of_lt_of_le hk hb.size) h1 h2).trans (hb.block k hk),fun g hg=>(h.loc g hg).imp id fun h=>Nat.le_trans hb.size h⟩
theorem MX{w:World}{N ob b7 tb:Nat}{l:List Tok}{tc:Nat}{cur:Array Value}{t:Tok}{num:Nat}{word out:ByteArray}{v:Value}(h7:w.heap[b7]? = some (.cells #[.slice (some ⟨tb,0,none⟩) l.length tc] 82))(ht:w.heap[tb]? = some (.cells cur 121))(hc:cur.toList.take (3*l.length)=aV l)(hn:l[num]? = some t)(hl:t.line<=1000)(hco:t.col<=1000)(hw:(word.toList == [])=false)(hws:word.size<=20)(ho:out.size<=1000000)(hM:MB N ob out v w)(hp:PT w.heap.size w) :
 Calls Tryz.prog 109 #[.int .i64 num,.string word,ptr ob,ptr b7] w fun e w'=>e = .returned (.tuple #[])/\Hid (∃v',MB N ob (tL out t word) v' w'/\KP N ob v v' w w'):=by
 have hnl:num<l.length:=(List.getElem?_eq_some_iff.1 hn).1;obtain⟨tt,tl,tc2⟩:=t;simp only at hl hco;have z:=iY l num _ hn;have z7:w.cell? ⟨b7,0,none⟩=some (.slice (some ⟨tb,0,none⟩) l.length tc):=aA (i:=0) h7;have z1:w.cell? ⟨tb,num*3+1,none⟩=some (.int .i64 tl):=by
  rw[aA ht,<-Array.getElem?_toList,Nat.mul_comm];exact cX hc z.2.1
 have z2:w.cell? ⟨tb,num*3+2,none⟩=some (.int .i64 tc2):=by
  rw[aA ht,<-Array.getElem?_toList,Nat.mul_comm];exact cX hc z.2.2
 have hlt2:(num:Int)<(l.length:Int):=by omega
 have hkc:(0:Int)<=(num:Int):=by omega
 have hs1:=nU tl hl;have hs2:=nU tc2 hco;obtain⟨sl,hsl⟩:∃sl,sl=kE tl:=⟨_,rfl⟩
 obtain⟨sc,hsc⟩:∃sc,sc=kE tc2:=⟨_,rfl⟩
 have HIL:=hid (fun (wx:World) (hb:Below w.heap.size w wx)=>hsl ▸ DZ tl hl wx (fun w' h'=>hp w' (aF hb h')));have HIC:=hid (fun (wx:World) (hb:Below w.heap.size w wx)=>hsc ▸ DZ tc2 hco wx (fun w' h'=>hp w' (aF hb h')));rw[<-hsl] at hs1;rw[<-hsc] at hs2;have HT:=hid (show tL out ⟨tt,tl,tc2⟩ word=out++((((sl++⟨#[58]⟩)++sc)++⟨#[32]⟩++word)++⟨#[10]⟩) by rw[hsl,hsc];rfl);have HW:=hid (fun (wx:World) (hb:Below w.heap.size w wx)=>JU (hM.below hb) ((((sl++⟨#[58]⟩)++sc)++⟨#[32]⟩++word)++⟨#[10]⟩) (by simp only[ByteArray.size_append,jC];omega));have HM:=hid hM;have HNW:=hid (show N<=w.heap.size by have:=hM.lo;have:=hM.lt;omega);rw[HT.out];have q1:¬(9223372036854775807<sl.size+1):=by omega
 have q2:¬(9223372036854775807<sl.size+1+sc.size):=by omega
 have q3:¬(9223372036854775807<sl.size+1+sc.size+1):=by omega
 have q4:¬(9223372036854775807<sl.size+1+sc.size+1+word.size):=by omega
 have q5:¬(9223372036854775807<sl.size+1+sc.size+1+word.size+1):=by omega
 have hS:=hid (show Below w.heap.size w w/\w.cell? ⟨b7,0,none⟩=some (.slice (some ⟨tb,0,none⟩) l.length tc)/\w.cell? ⟨tb,num*3+1,none⟩=some (.int .i64 tl)/\w.cell? ⟨tb,num*3+2,none⟩=some (.int .i64 tc2) from ⟨Below.refl _ _,z7,z1,z2⟩);have d7:w.drew.cell? ⟨b7,0,none⟩=some (.slice (some ⟨tb,0,none⟩) l.length tc):=z7;have d1:w.drew.cell? ⟨tb,num*3+1,none⟩=some (.int .i64 tl):=z1;have d2:w.drew.cell? ⟨tb,num*3+2,none⟩=some (.int .i64 tc2):=z2;have HBD:=hid (aJ w);clear h7 ht hc hn hl hco hM hp z hsl hsc ho hws z7 z1 z2;go_enter Tryz.func109,Tryz.ntmps109;go_wp2_with fail
 go_region_with (first
  | (go_at_call 12;refine (HIL.out _ ?hd).mono ?_;(case hd=>first|exact HBD.out|exact Below.refl _ _);rintro e w3⟨rfl,hb3⟩;have hk3:=hid (LG hS.out (aF HBD.out hb3));have k7:=hk3.out.2.1;have k2:=hk3.out.2.2.2;clear hb3)
  | (go_at_call 12;refine (HIC.out _ ?hd).mono ?_;(case hd=>first|exact hk3.out.1|exact aF hk3.out.1 (aJ _));rintro e w4⟨rfl,hb4⟩;have HK4:=hid (aF hk3.out.1 hb4);clear hb4)
  | (go_at_call 61;refine (HW.out _ ?hd).mono ?_;(case hd=>first|exact HK4.out|exact aF HK4.out (aJ _));rintro e w5⟨rfl,hf⟩;have HF:=hf))
 all_goals
  obtain⟨v',h1,h2⟩:=HF.out;have HFF:=hid (show ∃v',MB N ob _ v' w5/\KP N ob v v' w w5 from ⟨v',h1,h2.from HK4.out HNW.out⟩);clear h1 h2;go_wp2;go_end0
  exact⟨rfl,HFF⟩
theorem MZ{w:World}{ob b7:Nat}{num:Nat}{word:ByteArray}(hw:(word.toList == [])=true) :
 Calls Tryz.prog 109 #[.int .i64 num,.string word,ptr ob,ptr b7] w fun e w'=>e = .returned (.tuple #[])/\w'=w:=by
 go_enter Tryz.func109,Tryz.ntmps109;go_wp2;go_end0
 exact⟨rfl,rfl⟩
end Go.Proofs.YthibodlojlkppaaGreatDoor
namespace Go.Proofs.YthibodlojlkppaaGreatDoor
theorem Hh(s:ByteArray)(a:Nat)(h:a<=s.size):a+rV s a<=s.size:=by
 have:kB (s.extract a s.size).data.toList<=(s.extract a s.size).data.toList.length:=by unfold kB;exact (List.takeWhile_sublist _).length_le
 rw[show (s.extract a s.size).data.toList.length=s.size-a by rw[<-Lib.toList_data,Lib.extract_toList];simp] at this;unfold rV;omega
theorem Hi(s:ByteArray)(hs:s.size<=400):∀(f a line ls:Nat),a<=s.size->line<=a+1->∀t∈kO s f a line ls,t.text.size<=400/\t.line<=1000/\t.col<=1000:=by
 intro f;induction f with
 | zero=>intro a line ls _ _ t ht;simp[kO] at ht
 | succ f ih=>
  intro a line ls ha hl t ht;by_cases h:a<s.size
  . rw[nM s f a line ls h] at ht
    split at ht
    . exact ih (a+1) (line+1) (a+1) (by omega) (by omega) t ht
    . split at ht
      . exact ih (a+1) line ls (by omega) (by omega) t ht
      . split at ht
        . exact ih (a+1) line ls (by omega) (by omega) t ht
        . split at ht
          . exact ih _ line ls (Hh s a (by omega)) (by omega) t ht
          . have hb:=nL s a h
            simp only[List.mem_cons] at ht;rcases ht with rfl|ht
            . refine⟨?_,by simp;omega,by simp;omega⟩
              simp only[ByteArray.size_extract];omega
            . exact ih _ line ls (by omega) (by omega) t ht
  . unfold kO at ht
    rw[dif_neg h] at ht;simp at ht;subst ht;exact⟨Nat.zero_le _,by simp;omega,by simp;omega⟩
theorem nV{s:ByteArray}(hs:s.size<=400){i:Nat}{t:Tok}(h:(aN s)[i]? = some t):t.text.size<=400/\t.line<=1000/\t.col<=1000:=
 Hi s hs (s.size+1) 0 1 0 (by omega) (by omega) t (List.mem_of_getElem? h)
end Go.Proofs.YthibodlojlkppaaGreatDoor
namespace Go.Proofs.YthibodlojlkppaaGreatDoor
open Go.RowKit
variable [DecidableEq K] [LawfulBEq Lk]
def EK(l:List Tok):Option Nat->ByteArray->Prog V
 | none,out=>.ret (.s out)
 | some b,out=>mR l b F7 out fun out'=>.ret (.s out')
theorem Bz(f:ByteArray):kH f=Ce f fun toks=>p8 f fun its fl=>gT f toks its (EK toks fl) its bA:=by
 unfold kH;congr 1;funext toks;congr 1;funext its fl;congr 1;funext out;cases fl <;> rfl
section
variable {W0:World} {B bs lb:Nat} {fm:Value} {st0 st st1:St V} {L0 L L1:aM} {w0 w w1:World} {lk lk1:List Lk} {l:List Tok} {its:List cL} {ta ao:Option Addr} {tc c:Nat} {z:Int} {kb b7 b8 ob:Nat} {ko:Array Value} {s:ByteArray}
structure RL (W0:World) (B bs lb:Nat) (fm:Value) (st0:St V) (L0:aM) (w0:World) (l:List Tok) (its:List cL) (z:Int) (kb:Nat) (ko:Array Value) (ta:Option Addr) (tc:Nat) (ao:Option Addr) (c:Nat) (b7 b8 ob:Nat) (s:ByteArray) (st:St V) (L:aM) (lk:List Lk) (w:World):Prop where
 ws:WS W0 B bs lb fm st0 L0 w0 st L lk w
 tr:Row L.own w 121 (.slice ta l.length tc) l.length (aV l)
 ir:n5 L w ao c its
 k:w.heap[kb]? = some (.cells ko 99)/\gV L lb kb
 b7:w.heap[b7]? = some (.cells #[.slice ta l.length tc] 82)/\gV L lb b7
 b8:w.heap[b8]? = some (.cells #[.slice ao its.length c,.int .i64 z] 87)/\gV L lb b8
 bd:∃v,MB w0.heap.size ob s v w/\gV L lb ob/\∀g,v.ownBlock=some g->gV L lb g
theorem MB.rowC{N:Nat}{v:Value}(h:MB N ob s v w){g:Nat}(hg:v.ownBlock=some g):∃cur,w.heap[g]? = some (.cells cur 5):=jG h.row hg
theorem RL.below(h:RL W0 B bs lb fm st0 L0 w0 l its z kb ko ta tc ao c b7 b8 ob s st L lk w){w':World}(hb:Below w.heap.size w w'):RL W0 B bs lb fm st0 L0 w0 l its z kb ko ta tc ao c b7 b8 ob s st L lk w':=by
 obtain⟨h1,h2,h3,⟨h4,h5⟩,⟨h6,h7⟩,⟨h8,h9⟩,v,h10,h11⟩:=h;exact⟨h1.below hb,Row.below h2 hb,Row.below h3 hb,⟨below_heap hb (aB h4) h4,h5⟩,⟨below_heap hb (aB h6) h6,h7⟩,⟨below_heap hb (aB h8) h8,h9⟩,v,h10.below hb,h11⟩
theorem RL.got(h:RL W0 B bs lb fm st0 L0 w0 l its z kb ko ta tc ao c b7 b8 ob s st L lk w)(hg:mZ W0 B bs lb fm st0 L0 w0 st L w st1 L1 lk1 w1):RL W0 B bs lb fm st0 L0 w0 l its z kb ko ta tc ao c b7 b8 ob s st1 L1 lk1 w1:=by
 obtain⟨h1,h2,h3,⟨h4,h5⟩,⟨h6,h7⟩,⟨h8,h9⟩,v,h10,h11,h12⟩:=h;obtain⟨lv,hlb,_⟩:=h1.k.blk;have key:∀{b:Nat} {cs:Array Value} {T:TypeId},T≠169->w.heap[b]? = some (.cells cs T)->gV L lb b->w1.heap[b]? = some (.cells cs T)/\gV L1 lb b:=fun hT ha hb=>hg.n.mine ha hb (fun cs e=>by injection e with _ e;exact hT e);obtain⟨⟨p,hp,hob⟩,hown,hne,hlo⟩:=id h10;have hob1:=key (by decide) hob h11;refine⟨hg.s,Row.wnext h2 hg.n hlb (by decide) (by decide),Row.wnext h3 hg.n hlb (by decide) (by decide),key (by decide) h4 h5,key (by decide) h6 h7,key (by decide) h8 h9,v,⟨⟨p,hp,hob1.1⟩,bJ hown fun g hg2=>?_,hne,hlo⟩,hob1.2,fun g hg2=>?_⟩
 . obtain⟨cur,hc⟩:=h10.rowC hg2
   rw[hc];exact (key (by decide) hc (h12 g hg2)).1
 . obtain⟨cur,hc⟩:=h10.rowC hg2
   exact (key (by decide) hc (h12 g hg2)).2
theorem RL.wrote(h:RL W0 B bs lb fm st0 L0 w0 l its z kb ko ta tc ao c b7 b8 ob s st L lk w)(h00:W0.heap.size<=w0.heap.size){t:ByteArray}(hf:∀v,MB w0.heap.size ob s v w->∃v',MB w0.heap.size ob t v' w1/\KP w0.heap.size ob v v' w w1):RL W0 B bs lb fm st0 L0 w0 l its z kb ko ta tc ao c b7 b8 ob t st L lk w1:=by
 obtain⟨h1,h2,h3,⟨h4,h5⟩,⟨h6,h7⟩,⟨h8,h9⟩,v,h10,h11,h12⟩:=h;obtain⟨v',hm,hw⟩:=hf v h10;obtain⟨p,hp,hob⟩:=h10.hd;have key:∀(b:Nat) (o:Obj),(∀cs,o ≠ .cells cs 119)->(∀cs,o ≠ .cells cs 5)->w.heap[b]? = some o->w1.heap[b]? = some o:=fun b o n1 n2 hb=>by
  refine (hw.far b (aB hb) (fun e=>?_) (fun e=>?_)).trans hb
  . rw[e,hob] at hb;injection hb with hb;exact n1 _ hb.symm
  . obtain⟨cur,hc⟩:=h10.rowC e
    rw[hc] at hb;injection hb with hb;exact n2 _ hb.symm
 have kc:∀(b:Nat) (cs:Array Value) (T:TypeId),T≠119->T≠5->w.heap[b]? = some (.cells cs T)->w1.heap[b]? = some (.cells cs T):=fun b cs T n1 n2 hb=>key b _ (fun cs e=>by injection e with _ e;exact n1 e) (fun cs e=>by injection e with _ e;exact n2 e) hb;have hst:gR w w1:=⟨fun b cs T hT hb=>kc b cs T (fun e=>by rw[e] at hT;exact absurd hT (by decide)) (fun e=>by rw[e] at hT;exact absurd hT (by decide)) hb,fun b es n hb=>key b _ (fun cs e=>by cases e) (fun cs e=>by cases e) hb⟩
 have h1':=h1.stays h00 hw.low hst;refine⟨h1',h2.stays (by decide) hst,Row.stays h3 (by decide) hst,⟨kc _ _ _ (by decide) (by decide) h4,h5⟩,⟨kc _ _ _ (by decide) (by decide) h6,h7⟩,⟨kc _ _ _ (by decide) (by decide) h8,h9⟩,v',hm,h11,fun g hg=>?_⟩;rcases hw.loc g hg with h|h
 . exact h12 g h
 . exact h1.mine h
theorem RL.start(h1:WS W0 B bs lb fm st0 L0 w0 st L lk w)(h2:Row L.own w 121 (.slice ta l.length tc) l.length (aV l))(h3:n5 L w ao c its)(h4:w.heap[kb]? = some (.cells ko 99)/\gV L lb kb)(h5:w.heap[b7]? = some (.cells #[.slice ta l.length tc] 82)/\gV L lb b7)(h6:w.heap[b8]? = some (.cells #[.slice ao its.length c,.int .i64 z] 87)/\gV L lb b8) :
 RL W0 B bs lb fm st0 L0 w0 l its z kb ko ta tc ao c b7 b8 w.heap.size bA st L lk (w.alloc (.cells #[.pointer none,.slice none 0 0] 119)):=by
 have hb:=jD (Below.refl w.heap.size w) (.cells #[.pointer none,.slice none 0 0] 119);exact⟨h1.below hb,Row.below h2 hb,Row.below h3 hb,⟨below_heap hb (aB h4.1) h4.1,h4.2⟩,⟨below_heap hb (aB h5.1) h5.1,h5.2⟩,⟨below_heap hb (aB h6.1) h6.1,h6.2⟩,.slice none 0 0,⟨⟨_,.inl rfl,aI _ _⟩,World.ownsRow_nil _ _ _ _,by simp[Value.ownBlock],h1.n.fr.size⟩,h1.mine (Nat.le_refl _),fun g hg=>by simp[Value.ownBlock] at hg⟩
theorem CR{out:ByteArray}{t:Tok}{word:ByteArray}(h1:t.line<=1000)(h2:t.col<=1000)(h3:word.size<=20):(tL out t word).size<=out.size+2100:=by
 have a1:=nU t.line h1;have a2:=nU t.col h2;unfold tL;simp only[ByteArray.size_append,jC];omega
variable {E:eF V} {out0:Out (V×List Lk)} {stE:St V}
theorem RL.tell(h:RL W0 B bs lb fm st0 L0 w0 l its z kb ko ta tc ao c b7 b8 ob s st L lk w)(h00:W0.heap.size<=w0.heap.size)(hpt:PT W0.heap.size W0)(hsT:∃s:ByteArray,s.size<=400/\l=aN s){num:Nat}{word:ByteArray}(hws:word.size<=20)(ho:s.size<=1000000){c':ByteArray->Prog V}(hr:run E true (mR l num word s c') lk st=some (out0,stE)) :
 Calls Tryz.prog 109 #[.int .i64 num,.string word,ptr ob,ptr b7] w fun e w'=>e = .returned (.tuple #[])/\Hid (∃s',RL W0 B bs lb fm st0 L0 w0 l its z kb ko ta tc ao c b7 b8 ob s' st L lk w'/\s'.size<=s.size+2100/\run E true (c' s') lk st=some (out0,stE)):=by
 unfold mR at hr;cases hw:(word.toList == []) with
 | true=>
  rw[if_pos (show bB word bA=true from (bP word []).trans hw)] at hr;refine (MZ hw).mono ?_;rintro e w'⟨rfl,rfl⟩;exact⟨rfl,hid ⟨s,h,by omega,hr⟩⟩
 | false=>
  rw[if_neg (by rw[show bB word bA=false from (bP word []).trans hw];exact Bool.noConfusion)] at hr;cases ht:l[num]? with
  | none=>rw[ht] at hr;simp[run] at hr
  | some t=>
   rw[ht] at hr;simp only at hr;have hlt:=(List.getElem?_eq_some_iff.1 ht).1;obtain⟨tb,cur,rfl,_,hg,hc⟩:=DT h.tr (by omega);obtain⟨x,hx,rfl⟩:=hsT;have hb:=nV hx ht;obtain⟨v,hM,_⟩:=id h.bd;refine (MX h.b7.1 hg hc ht hb.2.1 hb.2.2 hw hws ho hM (fun w' h'=>hpt w' (aF h.ws.m.low h'))).mono ?_;rintro e w'⟨rfl,hf⟩;obtain⟨v',hm',hw'⟩:=hf.out;refine⟨rfl,hid ⟨_,h.wrote h00 fun v2 hM2=>?_,CR hb.2.1 hb.2.2 hws,hr⟩⟩;have e:v2=v:=by
    obtain⟨p,_,h1⟩:=hM.hd;obtain⟨p2,_,h2⟩:=hM2.hd;rw[h1] at h2;injection h2 with h2;injection h2 with h2;injection h2 with h2;injection h2 with _ h2;injection h2 with h2;exact h2.symm
   rw[e];exact⟨v',hm',hw'⟩
theorem Hj(hE:dX W0 E bs fm)(h:RL W0 B bs lb fm st0 L0 w0 l its z kb ko ta tc ao c b7 b8 ob s st L lk w)(h00:W0.heap.size<=w0.heap.size)(hpt:PT W0.heap.size W0)(hsT:∃s:ByteArray,s.size<=400/\l=aN s)(hn:its.length<=401)(ho:s.size<=1000000){f:ByteArray}{i:cL}{x:Value}(hx:x = .nilIface\/∃T v,x = .iface T v){c':ByteArray->Prog V}(hr:run E true (kP f its i fun word=>mR l i.num word s c') lk st=some (out0,stE)){ib:Nat}{io:Array Value}(hib:w.heap[ib]? = some (.cells io 137))(hmi:gV L lb ib) :
 ∀W,iU w W->Calls Tryz.prog 110 #[ptr bs,ptr lb,.string f,.agg #[.slice ao its.length c,.int .i64 z],.agg #[.int .i64 i.kind,.int .i64 i.num,.string i.name,.string i.typ,x]] W fun e w1=>∃t,e = .returned (.string t)/\w1.heap[ib]? = some (.cells io 137)/\Hid (∀W2,iU w1 W2->Calls Tryz.prog 109 #[.int .i64 i.num,.string t,ptr ob,ptr b7] W2 fun e w2=>e = .returned (.tuple #[])/\Hid (∃s' st' L' lk',RL W0 B bs lb fm st0 L0 w0 l its z kb ko ta tc ao c b7 b8 ob s' st' L' lk' w2/\s'.size<=s.size+2100/\run E true (c' s') lk' st'=some (out0,stE))):=by
 intro W hW;have hRW:=h.below hW.below;refine (LC hE hRW.ws hRW.ir hn hx hr).mono ?_;rintro e w1⟨t,rfl,hts,hf⟩;obtain⟨L1,lk1,st1,hr1,hg⟩:=hf.out;have hk:=(hg.n.mine (by rw[hW.h];exact hib) hmi (fun cs e=>by injection e with _ e;exact absurd e (by decide))).1;refine⟨t,rfl,hk,hid fun W2 hW2=>?_⟩;refine (((hRW.got hg).below hW2.below).tell h00 hpt hsT hts ho hr1).mono ?_;rintro e w2⟨rfl,hf2⟩;obtain⟨s',h1,h2,h3⟩:=hf2.out;exact⟨rfl,hid ⟨s',st1,L1,lk1,h1,h2,h3⟩⟩
theorem EL(h:RL W0 B bs lb fm st0 L0 w0 l its z kb ko ta tc ao c b7 b8 ob s st L lk w)(h00:W0.heap.size<=w0.heap.size):Calls Tryz.prog 62 #[ptr ob] w fun e w'=>e = .returned (.string s)/\WS W0 B bs lb fm st0 L0 w0 st L lk w':=by
 obtain⟨v,hM,_⟩:=id h.bd;obtain⟨⟨p,hp,hob⟩,hown,hne,hlo⟩:=id hM;have hI:Lib.IsBuilderF 119 5 w0.heap.size ob (Lib.byteCells s.data.toList) w:=by
  have hl:(Lib.byteCells s.data.toList).length=s.size:=by simp[Lib.byteCells]
  have hA:Lib.BuilderAt 119 5 w0.heap.size ob p (Lib.byteCells s.data.toList) w:=⟨hlo,v,hob,by rw[hl];exact hown,hne⟩
  rcases hp with rfl|rfl
  . exact .inl (Lib.BuilderAtF.of hA)
  . exact .inr (Lib.BuilderAtF.of hA)
 refine (Tryz.Builder_String_any_k w0.heap.size ob s.data.toList w hI h.ws.n.fr.size).mono ?_;rintro e w'⟨rfl,_,hb,hk⟩;refine⟨by simp,h.ws.stays h00 hb ?_⟩;have key:∀(b:Nat) (o:Obj),(∀cs,o ≠ .cells cs 119)->(∀cs fr,o ≠ .cells cs 5 fr)->w.heap[b]? = some o->w'.heap[b]? = some o:=fun b o n1 n2 hbb=>hk b o hbb (fun e=>by
  injection e with e;rw[e,hob] at hbb;injection hbb with hbb;exact n1 _ hbb.symm) n2
 exact⟨fun b cs T hT hb=>key b _ (fun cs e=>by injection e with _ e;rw[e] at hT;exact absurd hT (by decide)) (fun cs fr e=>by injection e with _ e;rw[e] at hT;exact absurd hT (by decide)) hb,fun b es n hb=>key b _ (fun cs e=>by cases e) (fun cs fr e=>by cases e) hb⟩
end
end Go.Proofs.YthibodlojlkppaaGreatDoor

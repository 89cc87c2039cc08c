import Derived.Test.YthibodlojlkppaaGreatDoorZ10
set_option linter.all false
set_option maxRecDepth 100000
set_option maxHeartbeats 40000000
namespace Go.Proofs.YthibodlojlkppaaGreatDoor
open Go.RowKit
variable [DecidableEq K] [LawfulBEq Lk]
def mA(kind:Int)(f nm:ByteArray):Int:=
 if kind<1\/8<kind then 6 else if eM f=false then 1 else if (5<=kind/\kind<=7)/\bR nm=false then 1 else 0
theorem oI(kind:Int)(w:World) :
 Calls Tryz.prog 34 #[.int .i64 kind] w fun e w'=>e = .returned (.bool (decide (5<=kind/\kind<=7)))/\w'=w:=by
 by_cases h1:5<=kind
 . by_cases h2:kind<=7
   . have e:decide (5<=kind/\kind<=7)=true:=by simp[h1,h2]
     rw[e];go_enter Tryz.func34,Tryz.ntmps34;go_wp2;go_ret;exact⟨rfl,rfl⟩
   . have e:decide (5<=kind/\kind<=7)=false:=by simp[h2]
     rw[e];go_enter Tryz.func34,Tryz.ntmps34;go_wp2;go_ret;exact⟨rfl,rfl⟩
 . have e:decide (5<=kind/\kind<=7)=false:=by simp[h1]
   rw[e];go_enter Tryz.func34,Tryz.ntmps34;go_wp2;go_ret;exact⟨rfl,rfl⟩
theorem xZ(kind:Int)(f nm:ByteArray)(w:World) :
 Calls Tryz.prog 20 #[.int .i64 kind,.string f,.string nm] w fun e w'=>e = .returned (.int .i64 (mA kind f nm))/\w'=w:=by
 have HF:=hid (oW f w);have HN:=hid (uZ nm w);have HNN:=hid (oI kind w);by_cases h1:kind<1
 . have e:mA kind f nm=6:=by simp[mA,h1]
   rw[e];go_enter Tryz.func20,Tryz.ntmps20;go_wp2;go_ret;exact⟨rfl,rfl⟩
 by_cases h2:8<kind
 . have e:mA kind f nm=6:=by simp[mA,h2]
   rw[e];go_enter Tryz.func20,Tryz.ntmps20;go_wp2;go_ret;exact⟨rfl,rfl⟩
 obtain⟨a,ha⟩:∃a,a=eM f:=⟨_,rfl⟩
 obtain⟨b,hb⟩:∃b,b=bR nm:=⟨_,rfl⟩
 obtain⟨n,hn⟩:∃n,n=decide (5<=kind/\kind<=7):=⟨_,rfl⟩
 have hr:mA kind f nm=if a=false then 1 else if n=true/\b=false then 1 else 0:=by
  rw[mA,if_neg (by omega),<-ha,<-hb,hn];simp
 rw[hr];rw[<-ha] at HF;rw[<-hb] at HN;rw[<-hn] at HNN;clear ha hb hn hr;cases a with
 | false=>
  simp only[if_true];go_enter Tryz.func20,Tryz.ntmps20;go_wp2_with fail
  refine HF.out.mono ?_;rintro e w1⟨rfl,rfl⟩;go_wp2;go_ret;exact⟨rfl,rfl⟩
 | true=>
  cases n with
  | false=>
   simp only[Bool.false_eq_true,false_and,if_false];go_enter Tryz.func20,Tryz.ntmps20;go_wp2_with fail
   refine HF.out.mono ?_;rintro e w1⟨rfl,rfl⟩;go_wp2_with fail
   refine HNN.out.mono ?_;rintro e w1⟨rfl,rfl⟩;go_wp2;go_ret;exact⟨rfl,rfl⟩
  | true=>
   cases b with
   | false=>
    simp only[true_and,if_true];go_enter Tryz.func20,Tryz.ntmps20;go_wp2_with fail
    refine HF.out.mono ?_;rintro e w1⟨rfl,rfl⟩;go_wp2_with fail
    refine HNN.out.mono ?_;rintro e w1⟨rfl,rfl⟩;go_wp2_with fail
    refine HN.out.mono ?_;rintro e w1⟨rfl,rfl⟩;go_wp2;go_ret;exact⟨rfl,rfl⟩
   | true=>
    simp only[Bool.true_eq_false,and_false,if_false];go_enter Tryz.func20,Tryz.ntmps20;go_wp2_with fail
    refine HF.out.mono ?_;rintro e w1⟨rfl,rfl⟩;go_wp2_with fail
    refine HNN.out.mono ?_;rintro e w1⟨rfl,rfl⟩;go_wp2_with fail
    refine HN.out.mono ?_;rintro e w1⟨rfl,rfl⟩;go_wp2;go_ret;exact⟨rfl,rfl⟩
theorem J2{k:K}:TB k≠66:=by
 unfold TB;repeat' split
 all_goals decide
theorem bN.beginS{st:St V}{L:aM}{lp:Option K}{bs:Nat}{fm:Value}{w:World}(h:bN st L lp bs fm w):bN {st with began:=[]} L lp bs fm (w.setCell ⟨bs,4,none⟩ (.slice none 0 0))/\Next st {st with began:=[]} L L w (w.setCell ⟨bs,4,none⟩ (.slice none 0 0)):=by
 obtain⟨q,sm,bg,kv,arr,h⟩:=h;have hfr:FR L.own w (w.setCell ⟨bs,4,none⟩ (.slice none 0 0)):=⟨rfl,rfl,rfl,by simp,fun b hb hn=>aD (fun e=>hn (by rw[e];exact h.bo)) _⟩
 have hcs:∀(b:Nat) (cs:Array Value) (T:TypeId),T≠66->w.heap[b]? = some (.cells cs T)->(w.setCell ⟨bs,4,none⟩ (.slice none 0 0)).heap[b]? = some (.cells cs T):=fun b cs T h1 hb=>by
  refine (aD (fun e=>?_) _).trans hb;rw[e,h.s] at hb;injection hb with hb;injection hb with _ hb;exact h1 hb.symm
 have hmp:∀(b:Nat) (es:Array MapEntry) (n:Nat),w.heap[b]? = some (.map es n)->(w.setCell ⟨bs,4,none⟩ (.slice none 0 0)).heap[b]? = some (.map es n):=fun b es n hb=>by
  refine (aD (fun e=>?_) _).trans hb;rw[e,h.s] at hb;injection hb with hb;cases hb
 refine⟨⟨q,sm,.slice none 0 0,kv,arr,⟨⟨aH (i:=4) h.s _,h.bo,fun b hb=>by simpa using h.olt b hb,h.sr.keep hmp,fun f c hf=>⟨(h.srb f c hf).1,hcs _ _ _ (by decide) (h.srb f c hf).2⟩,h.sri,h.qm,h.sm.keep hmp,⟨World.ownsRow_nil _ _ _ _,fun g hg=>by simp[Value.ownBlock] at hg⟩,h.kv.keep fun b cs=>hcs b cs _ (by decide),h.perm,h.nd,h.kl,h.ex,fun j n hj=>?_⟩,h.heap⟩⟩,⟨fun _ h=>⟨h,rfl⟩,fun _ h=>⟨h,rfl⟩,fun b hb=>.inl hb,hfr⟩⟩;have hc:=h.cell j n hj;obtain⟨x,vs,a,b⟩:=hc.ex;exact⟨⟨x,vs,hcs _ _ _ J2 a,b.next hfr fun i h=>.inl h⟩,hc.own⟩
theorem CW{st:St V}{L:aM}{lp:Option K}{bs:Nat}{fm:Value}{w:World}(h:bN st L lp bs fm w) :
 Calls Tryz.prog 19 #[ptr bs] w fun e w'=>e = .returned (.tuple #[])/\Hid (bN {st with began:=[]} L lp bs fm w'/\Next st {st with began:=[]} L L w w'):=by
 obtain⟨q,sm,bg,kv,arr,hx⟩:=id h;have c4:w.cell? ⟨bs,4,none⟩=some bg:=aA (i:=4) hx.s;have f4:w.frozen? ⟨bs,4,none⟩=false:=aE hx.s;have H:=hid h.beginS;clear h hx;go_enter Tryz.func19,Tryz.ntmps19;go_wp2;go_end0
 exact⟨rfl,H⟩
theorem J3{P:Program}{f:FuncId}{args:Array Value}{w:World}{R:Ending->World->Prop}(h:Calls P f args w R):∃e w',R e w':=by
 obtain⟨e,w',_,hr,_⟩:=h [];exact⟨e,w',hr⟩
theorem Hs{toks:List Tok}(hw:Wf toks)(w:World){a:Nat}(ha:a<toks.length):(mG toks a).1<toks.length:=by
 have h1:=aI w (.cells (aV toks).toArray 121);have h2:=aI (w.alloc (.cells (aV toks).toArray 121)) (.cells #[.slice (some ⟨w.heap.size,0,none⟩) toks.length toks.length,.int .i64 a,.int .i64 0] 224);have h3:=aC (.cells #[.slice (some ⟨w.heap.size,0,none⟩) toks.length toks.length,.int .i64 a,.int .i64 0] 224) h1;have hP:PS toks (w.alloc (.cells (aV toks).toArray 121)).heap.size w.heap.size toks.length a 0 ((w.alloc (.cells (aV toks).toArray 121)).alloc (.cells #[.slice (some ⟨w.heap.size,0,none⟩) toks.length toks.length,.int .i64 a,.int .i64 0] 224)).heap:=
  ⟨by simp,by rw[h2];rfl,_,h3,by
   have:(aV toks).length=3*toks.length:=fO toks
   simp[<-this]⟩
 obtain⟨_,_,hx⟩:=J3 (tI hw _ _ _ a _ ha hP);exact hx.2.2.1
theorem rK{toks:List Tok}(hw:Wf toks)(w:World):∀(f a b:Nat),a<toks.length->(jM toks f a).2=some b->b<toks.length
 | 0,_,_,_,h=>by simp[jM] at h
 | f+1,a,b,ha,h=>by
  have hlt:=Hs hw w ha;unfold jM at h;split at h
  . simp at h
  . split at h
    . rename_i c hip
      rw[hip] at hlt;simp at h;subst h;exact hlt
    . rename_i c i hip
      rw[hip] at hlt;exact rK hw w f c b hlt h
theorem rL{toks:List Tok}(hw:Wf toks)(w:World)(b:Nat)(h:(bY toks).2=some b):b<toks.length:=by
 have e:=AE toks;have:(iB toks).2=some b:=by rw[e];exact h
 exact rK hw w _ _ b hw.pos this
end Go.Proofs.YthibodlojlkppaaGreatDoor
namespace Go.Proofs.YthibodlojlkppaaGreatDoor
variable [DecidableEq K] [LawfulBEq Lk]
section
variable {V:Type} {wp:K->Prog V} {lp:V} {F:eV} {a:K->V} {U:List K} {M Q:Nat}
def St.drop(st:St V)(k:K):St V:=
 match st.sl k with
 | none=>st
 | some m=>{st.put k {m with val:=none} with kept:=st.kept.erase k}
def LQ(st:St V)(k:K):Nat:=((st.sl k).map (·.used)).getD 0
def Ht(n:Nat):Nat->St V->St V->Prop
 | 0,st,st'=>st.kept.length<=n/\st=st'
 | m+1,st,st'=>∃k,n<st.kept.length/\k∈st.kept/\(∀j∈st.kept,LQ st k<=LQ st j)/\Ht n m (st.drop k) st'
def eR(n:Nat)(st st':St V):Prop:=∃m,Ht n m st st'
theorem eR.done{n:Nat}{st:St V}(h:st.kept.length<=n):eR n st st:=⟨0,h,rfl⟩
theorem eR.more{n:Nat}{st st':St V}{k:K}(h1:n<st.kept.length)(h2:k∈st.kept)(h3:∀j∈st.kept,LQ st k<=LQ st j)(h:eR n (st.drop k) st'):eR n st st':=by
 obtain⟨m,hm⟩:=h;exact⟨m+1,k,h1,h2,h3,hm⟩
theorem eR.ind{n:Nat}{P:St V->St V->Prop}(g1:∀st,st.kept.length<=n->P st st)(g2:∀st st' k,n<st.kept.length->k∈st.kept->(∀j∈st.kept,LQ st k<=LQ st j)->P (st.drop k) st'->P st st'){st st':St V}(h:eR n st st'):P st st':=by
 obtain⟨m,hm⟩:=h;revert st;induction m with
 | zero=>intro st hm;obtain⟨a,rfl⟩:=hm;exact g1 _ a
 | succ m ih=>
  intro st hm;obtain⟨k,a,b,c,d⟩:=hm;exact g2 _ _ k a b c (ih d)
theorem Inv.drop{st:St V}(h:Inv F a st){k:K}(hk:k∈st.kept):Inv F a (st.drop k)/\(∀j,actB (st.drop k) j=actB st j)/\(st.drop k).uses=st.uses/\(st.drop k).began=st.began/\(st.drop k).kept=st.kept.erase k/\(∀j,j≠k->(st.drop k).sl j=st.sl j)/\(st.drop k).rev=st.rev:=by
 obtain⟨m,x,hm,hx⟩:=(h.kp k).1 hk;have e:st.drop k={st.put k {m with val:=none} with kept:=st.kept.erase k}:=by simp[St.drop,hm]
 have hsl:∀j,(st.drop k).sl j=if j=k then some {m with val:=none} else st.sl j:=fun j=>by rw[e];rfl
 have hmo:=h.mem k m hm;refine⟨⟨by rw[e];exact h.files,fun j n hj=>?_,fun j=>?_,?_⟩,fun j=>?_,by rw[e];rfl,by rw[e];rfl,by rw[e],fun j hj=>by rw[hsl,if_neg hj],by rw[e];rfl⟩
 . have h3:(st.drop k).rev=st.rev/\(st.drop k).uses=st.uses:=by rw[e];exact⟨rfl,rfl⟩
   rw[hsl] at hj;rw[h3.1,h3.2];by_cases hjk:j=k
   . rw[if_pos hjk] at hj
     cases hj;subst hjk;exact⟨fun _=>rfl,hmo.v1,fun x hx=>by simp at hx,hmo.us⟩
   . rw[if_neg hjk] at hj
     exact h.mem j n hj
 . have h3:(st.drop k).kept=st.kept.erase k:=by rw[e]
   rw[h3,hsl,h.nd.mem_erase_iff];by_cases hjk:j=k
   . subst hjk
     rw[if_pos rfl];constructor
     . rintro⟨h1,_⟩;exact absurd rfl h1
     . rintro⟨m1,y,h1,hy⟩;cases h1;simp at hy
   . rw[if_neg hjk,<-h.kp j]
     exact⟨fun h1=>h1.2,fun h1=>⟨hjk,h1⟩⟩
 . have h3:(st.drop k).kept=st.kept.erase k:=by rw[e]
   rw[h3];exact h.nd.erase k
 . unfold actB
   rw[hsl];by_cases hjk:j=k
   . subst hjk;rw[if_pos rfl,hm]
   . rw[if_neg hjk]
theorem EP(st:St V)(k:K):(st.drop k).files=st.files/\(st.drop k).src=st.src/\(∀j,(st.drop k).sl j=none↔st.sl j=none)/\(st.drop k).began=st.began:=by
 unfold St.drop;cases hk:st.sl k with
 | none=>exact⟨rfl,rfl,fun _=>Iff.rfl,rfl⟩
 | some m=>
  refine⟨rfl,rfl,fun j=>?_,rfl⟩;by_cases hj:j=k
  . subst hj;simp[St.put,hk]
  . simp[St.put,hj]
theorem oY{n:Nat}{st st':St V}(hd:eR n st st'):st'.files=st.files/\st'.src=st.src/\(∀j,st'.sl j=none↔st.sl j=none)/\st'.began=st.began:=by
 refine eR.ind (P:=fun st st'=>st'.files=st.files/\st'.src=st.src/\(∀j,st'.sl j=none↔st.sl j=none)/\st'.began=st.began) ?_ ?_ hd
 . exact fun _ _=>⟨rfl,rfl,fun _=>Iff.rfl,rfl⟩
 . intro st st' k _ _ _ ih
   obtain⟨a,b,c,d⟩:=EP st k;exact⟨ih.1.trans a,ih.2.1.trans b,fun j=>(ih.2.2.1 j).trans (c j),ih.2.2.2.trans d⟩
structure O3 (F:eV) (a:K->V) (n:Nat) (st st':St V):Prop where
 inv:Inv F a st'
 act:∀j,actB st' j=actB st j
 uses:st'.uses=st.uses
 began:st'.began=st.began
 len:st'.kept.length<=n
 last:∀k,qH st k->1<=n->qH st' k
 rev:st'.rev=st.rev
theorem BE{n:Nat}{st st':St V}(hd:eR n st st'):Inv F a st->O3 F a n st st':=by
 refine eR.ind (P:=fun st st'=>Inv F a st->O3 F a n st st') ?_ ?_ hd
 . exact fun st h hi=>⟨hi,fun _=>rfl,rfl,rfl,h,fun _ h _=>h,rfl⟩
 . intro st st' k h1 h2 h3 ih hi
   obtain⟨a1,a2,a3,a4,a5,a6,a7⟩:=hi.drop h2;have g:=ih a1;refine⟨g.inv,fun j=>(g.act j).trans (a2 j),g.uses.trans a3,g.began.trans a4,g.len,fun j hj hn=>g.last j ?_ hn,g.rev.trans a7⟩;obtain⟨m,e1,e2,e3,e4,e5⟩:=hj;have hjk:j≠k:=by
    rintro rfl;obtain⟨i,hi1,hi2⟩:∃i∈st.kept,i≠j:=by
     have hl:2<=st.kept.length:=by omega
     have hnd:=hi.nd;match st.kept,hl,hnd with
     | x::y::l,_,hnd=>
      by_cases hx:x=j
      . refine⟨y,by simp,fun e=>?_⟩
        rw[List.nodup_cons] at hnd;exact hnd.1 (by rw[hx,<-e];simp)
      . exact⟨x,by simp,hx⟩
    obtain⟨mi,xi,ei,_⟩:=(hi.kp i).1 hi1;have h4:=h3 i hi1;have h5:=e5 i mi hi2 ei;simp only[LQ,e1,ei,Option.map_some,Option.getD_some] at h4;omega
   refine⟨m,by rw[a6 j hjk];exact e1,by rw[a3];exact e2,by rw[a7];exact e3,by rw[a5];exact (hi.nd.mem_erase_iff).2 ⟨hjk,e4⟩,fun i mi hij hsi=>?_⟩;rw[a3];by_cases hik:i=k
   . subst hik
     obtain⟨m0,x0,e0,_⟩:=(hi.kp i).1 h2;have h4:=a1.mem i mi hsi;have h5:=e5 i m0 hij e0;have:mi.used=m0.used:=by
      have:(st.drop i).sl i=some {m0 with val:=none}:=by simp[St.drop,e0,St.put]
      rw[this] at hsi;cases hsi;rfl
     omega
   . rw[a6 i hik] at hsi
     exact e5 i mi hij hsi
def ER(st:St V):Prop:=∀k,actB st k=false
structure M1 (F:eV) (a:K->V) (k:K) (st':St V):Prop where
 inv:Inv F a st'
 last:qH st' k
 idle:ER st'
theorem Inv.beg{st:St V}(h:Inv F a st):Inv F a {st with began:=[]}:=⟨h.files,h.mem,h.kp,h.nd⟩
theorem qH.val{st:St V}{k:K}(h:qH st k)(hi:Inv F a st):st.val k=some (a k):=by
 obtain⟨m,e1,e2,e3,e4,e5⟩:=h;exact hi.valNow e4
theorem x5(hS:Spec wp lp F a)(hU:Lu wp F a U Q)(hM:M<=cD){k:K}(hk:k∈U){st:St V}(hi:Inv F a st)(hid:ER st)(hkl:st.kept.length+U.length<cD)(hm:(1+U.length)*U.length+U.length<=M)(hu:st.uses+Q*M+1<j9)(nc:Bool) :
 ∃n st1,cE (pC wp lp n) nc k [] {st with began:=[]}=some (.ok (a k,[.slot k]),st1)/\M1 F a k st1/\st1.uses<=st.uses+Q*M+1:=by
 have hi0:=hi.beg;obtain⟨f1,f2,f3,f4,f5,f6⟩:=hi0.find k;have hact:∀c,actB (({st with began:=[]}:St V).find k) c=false:=fun c=>(f2.actB c).trans (hid c);have hun:Bm U (({st with began:=[]}:St V).find k)<=U.length:=List.countP_le_length;have hin:s6 U (({st with began:=[]}:St V).find k)<=U.length:=List.countP_le_length;have hP:Mm F a U M Q (({st with began:=[]}:St V).find k):=by
  refine⟨f1,?_,?_,?_⟩
  . have h7:(1+U.length)*Bm U (({st with began:=[]}:St V).find k)<=(1+U.length)*U.length:=Nat.mul_le_mul_left _ hun
    rw[kQ,f4];simp only[List.length_nil];omega
  . unfold KB;rw[f5];show st.kept.length+_<cD;omega
  . rw[iW,f6,f4];simpa using hu
 obtain⟨out,st1,e,hp,hus,hout⟩:=GY hS hU hM (s6 U (({st with began:=[]}:St V).find k)+1) k _ hP hk f3 (fun c hc=>by rw[hact] at hc;cases hc) (by omega);have hsz:=hU.sz k hk;cases out with
 | error c=>
  have h4:=hout.2.2.2.1;rw[hact] at h4;cases h4
 | ok r=>
  obtain⟨h1,h2⟩:=hout;refine⟨s6 U (({st with began:=[]}:St V).find k)+1,st1,?_,⟨hp.inv,h2,fun c=>(hp.mono.actB c).trans (hact c)⟩,?_⟩
  . unfold cE
    rw[if_neg (by omega),if_neg (by simp),e];simp[h2.val hp.inv,cD]
  . rw[iW,iW,f6,f4] at hus
    have:st1.uses<=st1.uses+Q*(M-st1.began.length):=Nat.le_add_right _ _
    simp at hus;omega
end
end Go.Proofs.YthibodlojlkppaaGreatDoor
namespace Go.Proofs.YthibodlojlkppaaGreatDoor
open Go.RowKit
variable [DecidableEq K] [LawfulBEq Lk]
section
variable {α:Type} [DecidableEq α]
theorem BF{u:α->Nat}{n:Nat}:∀(f:Nat) (l:List α) (i j:Nat),n<=l.length->n<=j->(bT u n f l i).1[j]? = l[j]?
 | 0,l,i,j,_,_=>rfl
 | f+1,l,i,j,hl,hj=>by
  unfold bT;by_cases hn:n<=2*i+1
  . rw[if_pos hn]
  . rw[if_neg hn]
    obtain⟨hcn,hic,_⟩:=kX (used:=u) (l:=l) hn;split
    . rw[BF f _ _ j (by rw[cN];exact hl) hj,nN (by omega) (by omega),if_neg (by omega),if_neg (by omega)]
    . rfl
theorem Hu{u:α->Nat}{l:List α}(h:HN u l l.length):∀i,i<l.length->fK u l 0<=fK u l i:=by
 intro i;induction i using Nat.strongRecOn with
 | _ i ih=>
  intro hi;by_cases h0:i=0
  . subst h0;exact Nat.le_refl _
  . have hp:par i<i:=by unfold par;omega
    exact Nat.le_trans (ih (par i) hp (by omega)) (h i hi)
def jW(u:α->Nat)(l:List α):List α:=(bT u (l.length-1) (l.length-1) (eG l 0 (l.length-1)) 0).1
theorem vB(u:α->Nat):∀(l:List α),(jW u l).length=l.length:=by
 intro l;have key:∀(n f:Nat) (l:List α) (i:Nat),(bT u n f l i).1.length=l.length:=by
  intro n f;induction f with
  | zero=>intro l i;rfl
  | succ f ih=>
   intro l i;unfold bT;split
   . rfl
   . split
     . rw[ih,cN]
     . rfl
 unfold jW;rw[key,cN]
theorem x7{u:α->Nat}{l:List α}{n:Nat}(hn:l.length=n+1):(jW u l)[n]? = l[0]?:=by
 unfold jW;rw[hn,show n+1-1=n from rfl,BF _ _ _ _ (by rw[cN];omega) (Nat.le_refl _),nN (by omega) (by omega),if_pos rfl]
theorem vC{u:α->Nat}{l:List α}{n:Nat}{k:α}(hn:l.length=n+1)(hk:l[0]? = some k):jW u l=(jW u l).take n ++ [k]/\((jW u l).take n).length=n:=by
 have h1:=x7 (u:=u) hn;rw[hk] at h1;have h2:=vB u l;obtain⟨a,b⟩:=List.getElem?_eq_some_iff.1 h1;have h3:(jW u l).drop n = [k]:=by
  rw[List.drop_eq_getElem_cons a,b];simp[h2,hn]
 refine⟨?_,by rw[List.length_take];omega⟩;conv=>lhs;rw[<-List.take_append_drop n (jW u l),h3]
theorem ES{u:α->Nat}{l:List α}{n:Nat}(hn:l.length=n+1)(h:HN u l l.length):HN u ((jW u l).take n) n:=by
 by_cases h0:n=0
 . subst h0;intro i hi;omega
 have key:HN u (jW u l) n:=by
  unfold jW;rw[hn,show n+1-1=n from rfl];have hu:=fun k=>tN (used:=u) (l:=l) (i:=0) (j:=n) (by omega) (by omega) k;refine yU n _ 0 (by rw[cN];omega) (by omega) (by omega) (fun k hk hk0 hp=>?_) (fun c _ _ _ h0=>absurd rfl h0);have hpk:par k≠n:=by unfold par;omega
  rw[hu k,hu (par k),if_neg hpk,if_neg hp,if_neg (show ¬k=n by omega),if_neg hk0];exact h k (by omega)
 intro i hi;have ht:∀j,j<n->fK u ((jW u l).take n) j=fK u (jW u l) j:=fun j hj=>by
  unfold fK;rw[List.getElem?_take_of_lt hj]
 have hp:par i<n:=by unfold par;omega
 rw[ht i hi,ht (par i) hp];exact key i hi
end
theorem ENGp.popped{st:St V}{L:aM}{lp:Option K}{bs kb n c:Nat}{fm q sm bg:Value}{l:List K}{k:K}{m:bU V}{w w':World}(h:ENGp st L lp bs fm q sm bg (.slice (some ⟨kb,0,none⟩) (n+1) c) (l ++ [k]) w)(hl:l.length=n)(hm:st.sl k=some m)
 (hb:∀b,b≠bs->b≠kb->b≠L.bk k->w'.heap[b]? = w.heap[b]?) (hs:w'.heap.size=w.heap.size)
 (hS:w'.heap[bs]? = some (.cells #[fm,.int .i64 st.rev,q,sm,bg,.slice (some ⟨kb,0,none⟩) n c,.int .u64 st.uses] 66))
 (hK:∃v,w'.heap[kb]? = (w.setCell ⟨kb,n,none⟩ v).heap[kb]?) (hP:∀T xs,SB w (L.bk k) T xs->SB w' (L.bk k) T (xs.set 10 (.int .i64 (-1)))) :
 ENGp {st with kept:=st.kept.erase k} L lp bs fm q sm bg (.slice (some ⟨kb,0,none⟩) n c) l w':=by
 obtain⟨how,hin⟩:=h.kv;have hkb:L.own kb:=hin kb rfl;obtain⟨hll,⟨h1,h0⟩|⟨g,cap,cur,h1,h2,h3,h4,h5,h6,h7⟩⟩:=id how
 . simp at h1
 simp only[Value.slice.injEq,Option.some.injEq,Addr.mk.injEq,and_true] at h1;obtain⟨rfl,_,rfl⟩:=h1;have hnd:=List.nodup_append.1 h.nd;have hkl:k∉l:=fun e=>hnd.2.2 k e k (by simp) rfl;have hcs:∀(b:Nat) (cs:Array Value) (T:TypeId),w.heap[b]? = some (.cells cs T)->T≠94->T≠66->T≠TB k->w'.heap[b]? = some (.cells cs T):=fun b cs T hbb t1 t2 t3=>by
  obtain⟨x,vs,a,_⟩:=(h.cell k m hm).ex;rw[hb b (fun e=>?_) (fun e=>?_) (fun e=>?_)]
  . exact hbb
  . rw[e,h.s] at hbb;injection hbb with hbb;injection hbb with _ hbb;exact t2 hbb.symm
  . rw[e,h3] at hbb;injection hbb with hbb;injection hbb with _ hbb;exact t1 hbb.symm
  . rw[e,a] at hbb;injection hbb with hbb;injection hbb with _ hbb;exact t3 hbb.symm
 have hmp:∀(b:Nat) (es:Array MapEntry) (n:Nat),w.heap[b]? = some (.map es n)->w'.heap[b]? = some (.map es n):=fun b es n hbb=>by
  obtain⟨x,vs,a,_⟩:=(h.cell k m hm).ex;rw[hb b (fun e=>?_) (fun e=>?_) (fun e=>?_)]
  . exact hbb
  . rw[e,h.s] at hbb;injection hbb with hbb;cases hbb
  . rw[e,h3] at hbb;injection hbb with hbb;cases hbb
  . rw[e,a] at hbb;injection hbb with hbb;cases hbb
 have hout:∀(b:Nat) (o:Obj),¬L.own b->w.heap[b]? = some o->w'.heap[b]? = some o:=fun b o hn hbb=>by
  rw[hb b (fun e=>hn (e ▸ h.bo)) (fun e=>hn (e ▸ hkb)) (fun e=>hn (e ▸ (h.cell k m hm).own))];exact hbb
 have hT:=fU (k:=k);have hkv:oP L.own w' 94 1 (.slice (some ⟨kb,0,none⟩) n c) n (l.map (aY L)):=by
  obtain⟨v,hv⟩:=hK;rw[aH h3 v] at hv;refine⟨⟨by simp[hl],.inr ⟨kb,c,_,rfl,h2,hv,by omega,h5,by simp[h6],?_⟩⟩,fun g hg=>hin g hg⟩;have h8:(cur.toList.take (n*1))=l.map (aY L):=by
   have:(cur.toList.take ((n+1)*1)).take (n*1)=l.map (aY L):=by
    rw[show (l ++ [k]).length=n+1 by simp[hl]] at h7;rw[h7,List.map_append,List.take_append_of_le_length (by simp[hl]),List.take_of_length_le (by simp[hl])]
   rw[List.take_take] at this;rw[<-this];congr 1;omega
  rw[<-h8];simp only[Nat.mul_one,Array.toList_setIfInBounds];rw[List.take_set,List.set_eq_of_length_le (by simp;omega)]
 refine⟨hS,h.bo,fun b hbo=>by rw[hs];exact h.olt b hbo,h.sr.keep hmp,fun f c hf=>⟨(h.srb f c hf).1,hcs _ _ _ (h.srb f c hf).2 (by decide) (by decide) hT.2.1.symm⟩,h.sri,h.qm,h.sm.keep hmp,h.bg.keep fun b cs hbo=>hcs b cs _ hbo (by decide) (by decide) hT.2.2.1.symm,by rw[hl];exact hkv,?_,hnd.1,Nat.le_trans (List.length_erase_le ..) h.kl,fun j hj=>h.ex j (List.mem_append_left _ hj),fun j mj hj=>?_⟩
 . have:=h.perm.erase k
   rw[List.erase_append_right _ hkl] at this;simpa using this
 . have hc:=h.cell j mj hj
   obtain⟨x,vs,a,d⟩:=hc.ex;refine⟨⟨x,vs,?_,d.keep hout⟩,hc.own⟩;by_cases hjk:j=k
   . subst hjk
     have:=hP _ _ a
     rw[show kA l j = -1 by simp[kA,hkl]];exact this
   . rw[<-DH (arr:=l) (k:=k) (j:=j) (.inr hjk)]
     have hTj:=fU (k:=j);have e1:L.bk j≠bs:=fun e=>by
      have:=a;rw[SB,e,h.s] at this;injection this with this;injection this with _ this;exact hTj.1 this.symm
     have e2:L.bk j≠kb:=fun e=>by
      have:=a;rw[SB,e,h3] at this;injection this with this;injection this with _ this;exact hTj.2.2.2 this.symm
     have e3:L.bk j≠L.bk k:=fun e=>hjk (h.bk_inj (by rw[hj];simp) (by rw[hm];simp) e);exact (hb _ e1 e2 e3).trans a
structure BH (w w':World):Prop where
 os:w'.os=w.os
 tape:w'.tape=w.tape
 output:w'.output=w.output
 heap:w'.heap=w.heap
def J4(w:World)(bs kb n c p:Nat):World:=((w.setCell ⟨kb,n,none⟩ .nilIface).setCell ⟨bs,5,none⟩ (.slice (some ⟨kb,0,none⟩) n c)).setCell ⟨p,10,none⟩ (.int .i64 (-1))
theorem J5{w:World}{bs kb n c p:Nat}{pl:Int}(T:TypeId)(F:FuncId)(hM:MT T F)(h5:w.cell? ⟨bs,5,none⟩=some (.slice (some ⟨kb,0,none⟩) (n+1) c))(f5:w.frozen? ⟨bs,5,none⟩=false)
 (hk:w.cell? ⟨kb,n,none⟩=some (.iface T (.pointer (some ⟨p,0,none⟩)))) (fk:w.frozen? ⟨kb,n,none⟩=false) (hp:w.cell? ⟨p,10,none⟩=some (.int .i64 pl)) (fp:w.frozen? ⟨p,10,none⟩=false)
 (h1:kb≠bs) (h2:p≠bs) (h3:p≠kb) (hn:n<1099511627776) (hc:n+1<=c) :
 Calls Tryz.prog 213 #[.pointer (some ⟨bs,5,none⟩)] w fun e w'=>e = .returned (.iface T (.pointer (some ⟨p,0,none⟩)))/\BH (J4 w bs kb n c p) w':=by
 have m1:=hM.common;have m2:=hM.ncommon;have g5:(w.setCell ⟨kb,n,none⟩ .nilIface).cell? ⟨bs,5,none⟩=some (.slice (some ⟨kb,0,none⟩) (n+1) c):=(World.cell?_setCell_other _ _ _ _ (by intro e;injection e with e2;exact h1 e2)).trans h5;have e5:(w.setCell ⟨kb,n,none⟩ .nilIface).drew.cell? ⟨bs,5,none⟩=some (.slice (some ⟨kb,0,none⟩) (n+1) c):=g5;have gp:((w.setCell ⟨kb,n,none⟩ .nilIface).setCell ⟨bs,5,none⟩ (.slice (some ⟨kb,0,none⟩) n c)).cell? ⟨p,10,none⟩=some (.int .i64 pl):=((World.cell?_setCell_other _ _ _ _ (by intro e;injection e with e2;exact h2 e2.symm)).trans (World.cell?_setCell_other _ _ _ _ (by intro e;injection e with e2;exact h3 e2.symm))).trans hp;have gf:((w.setCell ⟨kb,n,none⟩ .nilIface).setCell ⟨bs,5,none⟩ (.slice (some ⟨kb,0,none⟩) n c)).frozen? ⟨p,10,none⟩=false:=by simpa using fp
 have e0:((n:Int)+1)-1=(n:Int):=by omega
 have hn0:(0:Int)<=(n:Int):=by omega
 have hn1:(n:Int)<(n:Int)+1:=by omega
 have hn2:(n:Int)+1<=1099511627776:=by omega
 have hn3:((n+1:Nat):Int)=(n:Int)+1:=by omega
 go_enter Tryz.func213,Tryz.ntmps213;go_wp2_with (go_at_call 219;refine (eQ p _).mono ?_;rintro e w1⟨rfl,rfl⟩)
 go_ret;exact⟨rfl,rfl,rfl,rfl,rfl⟩
theorem Ol{bs kb c n:Nat}{L:aM}{u:K->Nat}{arr:List K}{k:K}{w:World}(h:o9 bs kb c L u arr w)(hn:arr.length=n+1)(hk:arr[0]? = some k)(f5:w.frozen? ⟨bs,5,none⟩=false)(hc:n+1<=c)(hbs:bs<w.heap.size) :
 Calls Tryz.prog 48 #[gQ bs] w fun e w'=>e = .returned (aY L k)/\∃w1,HT bs kb c L u arr w (jW u arr) w1/\BH (J4 w1 bs kb n c (L.bk k)) w':=by
 have hll:=h.lenI;have m1:=zG bs _ w h.v;have m2:=Cp bs w;have m3:=Cq;have HLN:=hid (zJ (some ⟨kb,0,none⟩) arr.length c w);have m4:=mU bs _ w h.v;have m5:=zH bs;have m6:=zI;have HW:=hid (A1 h 0 n (by omega) (by omega));have HH:=hid h;have HN:=hid hn;have HK:=hid hk;have HF:=hid f5;have HC:=hid hc;have HBS:=hid hbs;have hn0:(0:Int)<=(n:Int):=by omega
 have hn1:(n:Int)+1<=1099511627776:=by rw[hn] at hll;omega
 have e0:((n:Int)+1)-1=(n:Int):=by omega
 have hn3:((n+1:Nat):Int)=(n:Int)+1:=by omega
 rw[hn] at m1 m4 HLN HW;clear h hn hk f5 hc hll hbs;unfold gQ aY at *;go_enter Tryz.func48,Tryz.ntmps48;go_wp2_with fail
 refine HLN.out.mono ?_;rintro e w1⟨rfl,rfl⟩;clear m1 m2 m3 HLN;go_wp2_with fail
 refine HW.out.mono ?_;rintro e w2⟨rfl,h1,h2⟩;clear m4 m5 m6;have HS:=hid ((HT.refl HH.out).swap h1 h2);clear h1 h2;have HD:=hid (KJ HS.out.hp 0 n (by rw[cN];have:=HN.out;omega) (Nat.zero_le _));unfold gQ at HD;go_wp2_with fail
 refine HD.out.mono ?_;rintro e w3⟨rfl,hh⟩;have HT3:Hid (HT bs kb c L u arr w1 (jW u arr) w3):=hid (by
  have hp:jW u arr=(bT u n n (eG arr 0 n) 0).1:=by unfold jW;rw[HN.out];rfl
  rw[hp];exact⟨hh.hp,HS.out.pf.trans hh.pf fun k=>HS.out.perm.mem_iff,hh.perm.trans HS.out.perm⟩)
 clear hh HD HS;have hlast:=x7 (u:=u) HN.out;rw[HK.out] at hlast;obtain⟨F,hM⟩:=mS k;obtain⟨T,xs,t1,t2,_⟩:=HT3.out.hp.pl n k hlast;have hmem:=List.mem_of_getElem? hlast;have hne:=HT3.out.hp.ne k hmem;have hv:=HT3.out.hp.v;rw[vB,HN.out] at hv;have hf5:w3.frozen? ⟨bs,5,none⟩=false:=by
  have:=HF.out
  rw[<-this];exact World.frozen?_of_block (w:=w1) (HT3.out.pf.far bs HBS.out (Ne.symm HT3.out.hp.kbs) fun j hj e=>(HH.out.ne j hj).2 e.symm)
 have HP:=hid (J5 (TI k) F hM hv hf5 (HT3.out.hp.cell hlast) (HT3.out.hp.fr n) (t1.cell t2) (t1.fr 10) HT3.out.hp.kbs hne.2 hne.1 (by omega) HC.out);have m7:=Jr bs;have m8:=K7 bs;have m9:=K8;clear hlast hM t1 t2 hmem hne hv hf5;go_wp2_with fail
 refine HP.out.mono ?_;rintro e w4⟨rfl,hs⟩;have HSM:=hid hs;clear hs;go_wp2;go_ret;exact⟨rfl,w3,HT3.out,HSM.out⟩
def N3(kind:Nat):FuncId:=if kind=2 then 231 else if kind=3 then 236 else if kind=4 then 241 else 220
theorem M2(p:Nat)(w:World):(method 414 165 (.pointer (some ⟨p,0, none⟩)) "almanac/slots.drop").run Tryz.prog w = .ok (220,.pointer (some ⟨p,0,none⟩)) w:=by kernel_rfl
theorem M3(p:Nat)(w:World):(nilAhead 414 165 (.pointer (some ⟨p,0, none⟩)) "almanac/slots.drop").run Tryz.prog w = .ok (some false) w:=by kernel_rfl
theorem M4(args:Array Value)(w:World):(callFunc 220 args).run Tryz.prog w = .ok (.enter 220 args) w:=by kernel_rfl
theorem M5(p:Nat)(w:World):(method 414 178 (.pointer (some ⟨p,0, none⟩)) "almanac/slots.drop").run Tryz.prog w = .ok (231,.pointer (some ⟨p,0,none⟩)) w:=by kernel_rfl
theorem M6(p:Nat)(w:World):(nilAhead 414 178 (.pointer (some ⟨p,0, none⟩)) "almanac/slots.drop").run Tryz.prog w = .ok (some false) w:=by kernel_rfl
theorem M7(args:Array Value)(w:World):(callFunc 231 args).run Tryz.prog w = .ok (.enter 231 args) w:=by kernel_rfl
theorem M8(p:Nat)(w:World):(method 414 184 (.pointer (some ⟨p,0, none⟩)) "almanac/slots.drop").run Tryz.prog w = .ok (236,.pointer (some ⟨p,0,none⟩)) w:=by kernel_rfl
theorem M9(p:Nat)(w:World):(nilAhead 414 184 (.pointer (some ⟨p,0, none⟩)) "almanac/slots.drop").run Tryz.prog w = .ok (some false) w:=by kernel_rfl
theorem Na(args:Array Value)(w:World):(callFunc 236 args).run Tryz.prog w = .ok (.enter 236 args) w:=by kernel_rfl
theorem Nb(p:Nat)(w:World):(method 414 189 (.pointer (some ⟨p,0, none⟩)) "almanac/slots.drop").run Tryz.prog w = .ok (241,.pointer (some ⟨p,0,none⟩)) w:=by kernel_rfl
theorem Nc(p:Nat)(w:World):(nilAhead 414 189 (.pointer (some ⟨p,0, none⟩)) "almanac/slots.drop").run Tryz.prog w = .ok (some false) w:=by kernel_rfl
theorem Nd(args:Array Value)(w:World):(callFunc 241 args).run Tryz.prog w = .ok (.enter 241 args) w:=by kernel_rfl
structure DR (T:TypeId) (F:FuncId):Prop where
 m:∀(p:Nat) (w:World),(method 414 T (.pointer (some ⟨p,0, none⟩)) "almanac/slots.drop").run Tryz.prog w = .ok (F,.pointer (some ⟨p,0,none⟩)) w
 n:∀(p:Nat) (w:World),(nilAhead 414 T (.pointer (some ⟨p,0, none⟩)) "almanac/slots.drop").run Tryz.prog w = .ok (some false) w
 e:∀(args:Array Value) (w:World),(callFunc F args).run Tryz.prog w = .ok (.enter F args) w
theorem Hv(k:K):DR (TI k) (N3 k.kind):=by
 unfold TI N3;repeat' split
 . exact⟨M5,M6,M7⟩
 . exact⟨M8,M9,Na⟩
 . exact⟨Nb,Nc,Nd⟩
 . exact⟨M2,M3,M4⟩
theorem ET(p:Nat)(v:Value)(w:World)(h:w.cell? ⟨p,15,none⟩=some v)(hf:w.frozen? ⟨p,15,none⟩=false) :
 Calls Tryz.prog 220 #[.pointer (some ⟨p,0,none⟩)] w fun e w'=>e = .returned (.tuple #[])/\w'=w.setCell ⟨p,15,none⟩ (.string bA):=by
 go_enter Tryz.func220,Tryz.ntmps220;go_wp2;go_end0
 exact⟨rfl,rfl⟩
theorem EU(p:Nat)(v:Value)(w:World)(h:w.cell? ⟨p,15,none⟩=some v)(hf:w.frozen? ⟨p,15,none⟩=false) :
 Calls Tryz.prog 231 #[.pointer (some ⟨p,0,none⟩)] w fun e w'=>e = .returned (.tuple #[])/\w'=w.setCell ⟨p,15,none⟩ (.slice none 0 0):=by
 go_enter Tryz.func231,Tryz.ntmps231;go_wp2;go_end0
 exact⟨rfl,rfl⟩
theorem EV(p:Nat)(v:Value)(w:World)(h:w.cell? ⟨p,15,none⟩=some v)(hf:w.frozen? ⟨p,15,none⟩=false) :
 Calls Tryz.prog 241 #[.pointer (some ⟨p,0,none⟩)] w fun e w'=>e = .returned (.tuple #[])/\w'=w.setCell ⟨p,15,none⟩ (.slice none 0 0):=by
 go_enter Tryz.func241,Tryz.ntmps241;go_wp2;go_end0
 exact⟨rfl,rfl⟩
theorem EW(p:Nat)(a b:Value)(w:World)(h:w.cell? ⟨p,16,none⟩=some a)(h':w.cell? ⟨p,17,none⟩=some b)(hf:w.frozen? ⟨p,16,none⟩=false)(hf':w.frozen? ⟨p,17,none⟩=false)(hp:p<w.heap.size) :
 Calls Tryz.prog 236 #[.pointer (some ⟨p,0,none⟩)] w fun e w'=>e = .returned (.tuple #[])/\∃o,w'=((w.setCell ⟨p,16,none⟩ (.slice none 0 0)).setCell ⟨p,17,none⟩ (.int .i64 0)).alloc o:=by
 have HB:=hid (aG w (.cells #[.slice none 0 0,.int .i64 0] 87));have c16:=aK HB.out h;go_enter Tryz.func236,Tryz.ntmps236;go_wp2;go_end0
 exact⟨rfl,_,rfl⟩
theorem BH.at{w w':World}(h:BH w w')(b:Nat):w'.heap[b]? = w.heap[b]?:=by rw[h.heap]
def Hw(st:St V)(L:aM)(bs:Nat)(fm:Value)(k:K)(m:bU V)(q sm bg kv:Value)(arr:List K)(w:World):Ending->World->Prop:=fun e w'=>
 e = .returned (.tuple #[])/\ENGp (st.put k {m with val:=none}) L none bs fm q sm bg kv arr w'/\FR L.own w w'
theorem pR{bs:Nat}{k:K}{m:bU V}{lp:Bool}{x:Jb}{pl:Int}{v v':Value}(h3:k.kind≠3):(aX bs k m lp x pl [v]).set 15 v'=aX bs k m lp x pl [v']/\(aX bs k m lp x pl [v])[15]? = some v:=by
 unfold aX cB;by_cases h2:k.kind=2
 . simp[h2]
 by_cases h4:k.kind=4
 . simp[h4]
 . simp[h2,h3,h4]
theorem Hx{bs:Nat}{k:K}{m:bU V}{lp:Bool}{x:Jb}{pl:Int}{a b a' b':Value}(h3:k.kind=3):((aX bs k m lp x pl [a,b]).set 16 a').set 17 b'=aX bs k m lp x pl [a',b']/\(aX bs k m lp x pl [a,b])[16]? = some a/\(aX bs k m lp x pl [a,b])[17]? = some b:=by
 unfold aX cB;simp[h3]
theorem Nf{st:St V}{L:aM}{bs:Nat}{fm q sm bg kv:Value}{arr:List K}{w:World}(h:ENGp st L none bs fm q sm bg kv arr w){k:K}{m:bU V}(hk:st.sl k=some m) :
 Calls Tryz.prog (N3 k.kind) #[ptr (L.bk k)] w (Hw st L bs fm k m q sm bg kv arr w):=by
 obtain⟨x,vs,a,c⟩:=(h.cell k m hk).ex;have hs:(if k.kind=2 then ∃a m c,vs = [.slice a m c] else if k.kind=3 then ∃a m c f,vs = [.slice a m c,.int .i64 f] else if k.kind=4 then ∃a m c,vs = [.slice a m c] else ∃b,vs = [.string b]):=dN c;have hown:=(h.cell k m hk).own;have one:∀(v:Value) (w':World),w'=w.setCell ⟨L.bk k,15,none⟩ v->k.kind≠3->(∃u,vs = [u])->bO L.own w k.kind none [v]->ENGp (st.put k {m with val:=none}) L none bs fm q sm bg kv arr w'/\FR L.own w w':=by
  rintro v w' rfl h3⟨u,rfl⟩ hv;refine⟨h.slot hk (fun b hb=>aD hb v) (by simp) ⟨x,[v],?_,hv⟩ fun _ _=>rfl,(FR.refl _ _).setCell _ (.inl hown) v⟩;have:=a.set 15 v
  rw[(pR h3).1] at this;exact this
 unfold N3;split
 . rename_i h2
   rw[if_pos h2] at hs;obtain⟨a1,m1,c1,rfl⟩:=hs;refine (EU (L.bk k) _ w (a.cell (pR (v':=.nilIface) (by omega)).2) (a.fr 15)).mono ?_;rintro e w'⟨he,hw⟩;exact⟨he,one _ w' hw (by omega) ⟨_,rfl⟩ (by show if k.kind=2 then _ else _;rw[if_pos h2];exact⟨_,_,_,rfl⟩)⟩
 rename_i h2;rw[if_neg h2] at hs;split
 . rename_i h3
   rw[if_pos h3] at hs;obtain⟨a1,m1,c1,f1,rfl⟩:=hs;have h16:=Hx (bs:=bs) (m:=m) (lp:=decide ((none:Option K)=some k)) (x:=x) (pl:=kA arr k) (a:=.slice a1 m1 c1) (b:=.int .i64 f1) (a':=.slice none 0 0) (b':=.int .i64 0) h3;refine (EW (L.bk k) _ _ w (a.cell h16.2.1) (a.cell h16.2.2) (a.fr 16) (a.fr 17) (aB a)).mono ?_;rintro e w'⟨he,o,rfl⟩;have hval:bO L.own w k.kind none [.slice none 0 0,.int .i64 0]:=by
    show if k.kind=2 then _ else _;rw[if_neg h2,if_pos h3];exact⟨_,_,_,_,rfl⟩
   have hsb:=(a.set 16 (.slice none 0 0)).set 17 (.int .i64 0);rw[h16.1] at hsb;have hE:=h.slot (m':={m with val:=none}) (w':=(w.setCell ⟨L.bk k,16,none⟩ (.slice none 0 0)).setCell ⟨L.bk k,17,none⟩ (.int .i64 0)) hk (fun b hbb=>(aD hbb _).trans (aD hbb _)) (by simp) ⟨x,_,hsb,hval⟩ fun _ _=>rfl;exact⟨he,hE.below (aG _ o),(((FR.refl L.own w).setCell ⟨L.bk k,16,none⟩ (.inl hown) (.slice none 0 0)).setCell ⟨L.bk k,17,none⟩ (.inl hown) (.int .i64 0)).alloc o⟩
 rename_i h3;rw[if_neg h3] at hs;split
 . rename_i h4
   rw[if_pos h4] at hs;obtain⟨a1,m1,c1,rfl⟩:=hs;refine (EV (L.bk k) _ w (a.cell (pR (v':=.nilIface) h3).2) (a.fr 15)).mono ?_;rintro e w'⟨he,hw⟩;exact⟨he,one _ w' hw h3 ⟨_,rfl⟩ (by show if k.kind=2 then _ else _;rw[if_neg h2,if_neg h3,if_pos h4];exact⟨_,_,_,rfl⟩)⟩
 . rename_i h4
   rw[if_neg h4] at hs;obtain⟨b1,rfl⟩:=hs;refine (ET (L.bk k) _ w (a.cell (pR (v':=.nilIface) h3).2) (a.fr 15)).mono ?_;rintro e w'⟨he,hw⟩;exact⟨he,one _ w' hw h3 ⟨_,rfl⟩ (by show if k.kind=2 then _ else _;rw[if_neg h2,if_neg h3,if_neg h4];exact⟨_,rfl⟩)⟩
theorem EY{st:St V}{L:aM}{bs kb n c:Nat}{fm q sm bg:Value}{arr:List K}{k:K}{m:bU V}{w w1 w':World}(h:cV st L none bs fm q sm bg (.slice (some ⟨kb,0,none⟩) arr.length c) arr w)(hn:arr.length=n+1)(hk0:arr[0]? = some k)(hm:st.sl k=some m)
 (hT:HT bs kb c L (bH st) arr w (jW (bH st) arr) w1) (hS:BH (J4 w1 bs kb n c (L.bk k)) w') :
 ENGp {st with kept:=st.kept.erase k} L none bs fm q sm bg (.slice (some ⟨kb,0,none⟩) n c) ((jW (bH st) arr).take n) w'/\FR L.own w w'/\HN (bH st) ((jW (bH st) arr).take n) n/\(∀j∈st.kept,bH st k<=bH st j):=by
 obtain⟨hsp,hln⟩:=vC (u:=bH st) hn hk0;have hp:=h.toENGp.heaped hT;have hlen:(jW (bH st) arr).length=n+1:=by rw[vB,hn]
 rw[hlen,hsp] at hp;have hkb:L.own kb:=h.kv.2 kb rfl;have hne:=hT.hp.ne k (by rw[hsp];simp);have hkbs:=hT.hp.kbs;have hfar:∀b,b≠bs->b≠kb->b≠L.bk k->w'.heap[b]? = w1.heap[b]?:=fun b h1 h2 h3=>by
  rw[hS.at];exact (aD h3 _).trans ((aD h1 _).trans (aD h2 _))
 have hsz:w'.heap.size=w1.heap.size:=by rw[hS.heap];simp[J4]
 refine⟨hp.popped hln hm hfar hsz ?_ ⟨.nilIface,?_⟩ fun T xs hx=>?_,?_,?_,?_⟩
 . rw[hS.at]
   refine (aD (Ne.symm hne.2) _).trans ?_;exact aH (i:=5) ((aD (Ne.symm hkbs) _).trans hp.s) _
 . rw[hS.at]
   exact (aD (Ne.symm hne.1) _).trans (aD hkbs _)
 . have h1:SB ((w1.setCell ⟨kb,n,none⟩ .nilIface).setCell ⟨bs,5,none⟩ (.slice (some ⟨kb,0,none⟩) n c)) (L.bk k) T xs:=(aD hne.2 _).trans ((aD hne.1 _).trans hx)
   have h2:=h1.set 10 (.int .i64 (-1));exact (hS.at _).trans h2
 . have f1:=Gf h.toENGp hkb hT.pf fun j hj=>hj
   refine⟨hS.os.trans f1.os,hS.tape.trans f1.tape,hS.output.trans f1.output,by rw[hsz];exact f1.size,fun b hb hnb=>?_⟩;rw[hfar b (fun e=>hnb (e ▸ h.bo)) (fun e=>hnb (e ▸ hkb)) (fun e=>hnb (e ▸ (h.cell k m hm).own))];exact f1.block b hb hnb
 . exact ES hn h.heap
 . intro j hj
   have hja:=h.perm.mem_iff.2 hj;obtain⟨i,hi⟩:=List.getElem?_of_mem hja;have hil:=(List.getElem?_eq_some_iff.1 hi).1;have:=Hu h.heap i hil
   unfold fK at this;rw[hk0,hi] at this;exact this
def Hy(n:Nat)(st:St V)(L:aM)(bs:Nat)(fm:Value)(w:World):Ending->World->Prop:=fun e w'=>
 e = .returned (.tuple #[])/\∃st',eR n st st'/\bN st' L none bs fm w'/\FR L.own w w'
theorem drop_eq{st:St V}{k:K}{m:bU V}(hm:st.sl k=some m):({st with kept:=st.kept.erase k}:St V).put k {m with val:=none}=st.drop k:=by
 unfold St.drop;rw[hm];rfl
theorem EZ{st:St V}{k:K}{m:bU V}(hm:st.sl k=some m):bH (st.drop k)=bH st:=by
 funext j;unfold bH St.drop;rw[hm];by_cases hj:j=k
 . subst hj;simp[St.put,hm]
 . simp[St.put,hj]
theorem KR{st:St V}{L:aM}{bs:Nat}{fm:Value}{w:World}(h:bN st L none bs fm w) :
 Calls Tryz.prog 22 #[.pointer (some ⟨bs,1,none⟩),.int .i64 40] w (Hy 40 st L bs fm w):=by
 have HS:Hid (bN st L none bs fm w/\FR L.own w w):=hid ⟨h,FR.refl _ _⟩;clear h;go_enter Tryz.func22,Tryz.ntmps22;go_wp2;go_loopg [] st.kept.length (fun g wr=>∃st1:St V,g=st1.kept.length/\bN st1 L none bs fm wr/\FR L.own w wr/\∀st',eR 40 st1 st'->eR 40 st st')
 case atStart=>exact⟨st,rfl,HS.out.1,HS.out.2,fun _ x=>x⟩
 case round=>
  obtain⟨st1,hg,hE,hF,hD⟩:=hrel;obtain⟨q,sm,bg,kv,arr,hx⟩:=hE;have hle:=hx.perm.length_eq;have hkl:=hx.kl;by_cases h40:arr.length<=40
  . obtain⟨ao,c,hkv⟩:∃ao c,kv = .slice ao arr.length c:=by
     obtain⟨⟨_,⟨h1,h2⟩|⟨g,c,cur,h1,_⟩⟩,_⟩:=hx.kv
     . exact⟨none,0,by rw[h1,h2]⟩
     . exact⟨_,_,h1⟩
    subst hkv;have c5:wr.cell? ⟨bs,5,none⟩=some (.slice ao arr.length c):=aA (i:=5) hx.s;have hlt:¬((40:Int)<(arr.length:Int)):=by omega
    have HE:=hid (And.intro (show bN st1 L none bs fm wr from ⟨q,sm,bg,_,arr,hx⟩) (And.intro hF (hD st1 (.done (by omega)))));clear hx hF hD hg HS;go_wp2;go_end0
    exact⟨rfl,st1,HE.out.2.2,HE.out.1,HE.out.2.1⟩
  . have hne:arr ≠ []:=fun e=>by rw[e] at h40;exact h40 (by simp)
    obtain⟨kb,c,hkv,hhp,_⟩:=hx.toENGp.hpx hne;subst hkv;obtain⟨n,hn⟩:∃n,arr.length=n+1:=⟨arr.length-1,by omega⟩
    obtain⟨k,hk0⟩:∃k,arr[0]? = some k:=⟨_,List.getElem?_eq_getElem (by omega)⟩
    have hka:=List.mem_of_getElem? hk0;obtain⟨m,hm⟩:=Option.ne_none_iff_exists'.1 (hx.ex k hka);have c5:wr.cell? ⟨bs,5,none⟩=some (.slice (some ⟨kb,0,none⟩) arr.length c):=aA (i:=5) hx.s;have hlt:(40:Int)<(arr.length:Int):=by omega
    have hcap:n+1<=c:=by
     obtain⟨⟨_,⟨h1,h2⟩|⟨g,c',cur,h1,_,_,h4,_⟩⟩,_⟩:=hx.kv
     . omega
     . injection h1 with _ _ h1;omega
    have HP:=hid (Ol hhp hn hk0 (aE hx.s) hcap (aB hx.s));have HX:=hid (And.intro hx (And.intro hF hD));have HK:=hid (And.intro hn (And.intro hk0 (And.intro hm hg)));have HM:=hid (And.intro h40 (And.intro hle (hx.perm.mem_iff.1 hka)));obtain⟨F,hMT⟩:=mS k;have m1:=(Hv k).m;have m2:=(Hv k).n;have m3:=(Hv k).e;have m4:=hMT.isSlot;unfold gQ aY at HP;clear hx hF hD hg HS hhp hn hk0 hm hka hne hcap h40 hle hkl hMT;go_wp2_with fail
    refine HP.out.mono ?_;rintro e w1⟨rfl,w0,hT,hSM⟩;have hps:=EY HX.out.1 HK.out.1 HK.out.2.1 HK.out.2.2.1 hT hSM;have HPS:=hid hps;have HDC:=hid (Nf hps.1 (k:=k) (m:=m) HK.out.2.2.1);clear hT hSM hps;go_wp2_with fail
    refine HDC.out.mono ?_;rintro e w2⟨rfl,hE2,hF2⟩;have hst:({st1 with kept:=st1.kept.erase k}:St V).put k {m with val:=none}=st1.drop k:=drop_eq HK.out.2.2.1;rw[hst] at hE2;have HR:Hid (bN (st1.drop k) L none bs fm w2/\FR L.own w w2/\(∀st',eR 40 (st1.drop k) st'->eR 40 st st')/\(st1.drop k).kept.length+1=st1.kept.length):=hid (by
     have hlen:=HM.out.2.1;have h40:=HM.out.1;have hmem:=HM.out.2.2;refine⟨⟨_,_,_,_,_,hE2,?_⟩,(HX.out.2.1.trans HPS.out.2.1 fun i hi=>.inl hi).trans hF2 fun i hi=>.inl hi,fun st' hd=>HX.out.2.2 st' (.more (by omega) hmem HPS.out.2.2.2 hd),?_⟩
     . rw[EZ HK.out.2.2.1]
       have h5:(List.take n (jW (bH st1) arr)).length=n:=(vC (u:=bH st1) HK.out.1 HK.out.2.1).2;rw[h5];exact HPS.out.2.2.1
     . have:(st1.drop k).kept=st1.kept.erase k:=by unfold St.drop;rw[HK.out.2.2.1]
       rw[this,List.length_erase_of_mem hmem];have:=HK.out.1
       omega)
    clear hE2 hF2 hst HPS HDC HX HP;go_wp2;go_roundg (st1.drop k).kept.length
    all_goals first
     | (have:=HK.out.2.2.2;have:=HR.out.2.2.2;omega)
     | exact⟨st1.drop k,rfl,HR.out.1,HR.out.2.1,HR.out.2.2.1⟩

section
variable {F:eV} {v:ByteArray->ByteArray->ByteArray}
def pS(F:eV):Prop:=∀f b,(aO F f).2=some b->b<(dP F f).length
theorem kL(f:ByteArray)(c:List cL->Option Nat->Prog V):bV F (bQ F v) (p8 f c)=bV F (bQ F v) (c (aO F f).1 (aO F f).2)/\qs F (bQ F v) (p8 f c) = .slot ⟨3,f,bA⟩::qs F (bQ F v) (c (aO F f).1 (aO F f).2):=⟨rfl,rfl⟩
theorem Om(f nm:ByteArray):bV F (bQ F v) (AF f nm)=some (.s (findF F f nm))/\qs F (bQ F v) (AF f nm)=cW F ⟨5,f,nm⟩:=by
 unfold AF;rw[(kL (F:=F) (v:=v) f _).1,(kL (F:=F) (v:=v) f _).2];simp only[findF,cW];cases hn:aU nm (aO F f).1 with
 | nil=>
  obtain⟨a,b⟩:=zW (F:=F) (v:=v) nm (fun r=>.ret (.s r)) (bS (aO F f).1 []) none_;exact⟨a,by simp only;rw[b];simp[qs,hn]⟩
 | cons i l=>
  cases l with
  | nil=>exact⟨rfl,by simp[qs,hn]⟩
  | cons j l=>exact⟨rfl,by simp[qs,hn]⟩
theorem On(f nm:ByteArray):bV F (bQ F v) (AG f nm)=some (.s (bK F f nm))/\qs F (bQ F v) (AG f nm)=cW F ⟨6,f,nm⟩:=by
 unfold AG;rw[(kL (F:=F) (v:=v) f _).1,(kL (F:=F) (v:=v) f _).2];obtain⟨l,hl⟩:∃l,aU nm (aO F f).1=l:=⟨_,rfl⟩
 have hlk:cW F ⟨6,f,nm⟩ = .slot ⟨3,f,bA⟩::(match aU nm (aO F f).1 with | [i]=>(match i.ex with|none=>[]|some e=>iS F f (aL e []))|_=>[]):=rfl;rw[hlk];cases l with
 | nil=>simp only[hl,bK];exact⟨rfl,rfl⟩
 | cons i l=>
  cases l with
  | cons j l=>simp only[hl,bK];exact⟨rfl,rfl⟩
  | nil=>
   obtain⟨e,he⟩:=Bo (F:=F) (f:=f) (nm:=nm) (i:=i) (by rw[hl];simp);obtain⟨a,b⟩:=Bn (F:=F) (v:=v) f (fun M=>.ret (.s (if bB (fE M e) i.typ then i.typ else eX))) (aL e []) fun _=>bA;simp only[hl,he,bK];exact⟨a,by rw[b];simp[qs]⟩
theorem Oo(hok:∀f n,gP (v f n)=true)(f nm:ByteArray):bV F (bQ F v) (tK f nm)=some (.s (gY F v f nm))/\qs F (bQ F v) (tK f nm)=cW F ⟨7,f,nm⟩:=by
 have e6:bQ F v ⟨6,f,nm⟩ = .s (bK F f nm):=rfl;unfold tK;simp only[oM,bV,qs,e6];simp only[cW,gY,dD];cases hb:(bB (bK F f nm) none_||bB (bK F f nm) eX) with
 | true=>exact⟨rfl,rfl⟩
 | false=>
  obtain⟨i,e,h1,h2,h3⟩:=oV hb;simp only[Bool.false_eq_true,if_false];rw[(kL (F:=F) (v:=v) f _).1,(kL (F:=F) (v:=v) f _).2];simp only[h1,h2];obtain⟨a,b⟩:=xR (F:=F) (v:=v) hok f (fun fault M=>.ret (.s (gF e (bK F f nm) fault M))) (aL e []) bA fun _=>0;rw[a,b];exact⟨rfl,by simp[qs]⟩
theorem Oq(hF:pS F)(f nm:ByteArray):bV F (bQ F v) (kH f)=some (.s (pK F v f))/\qs F (bQ F v) (kH f)=cW F ⟨8,f,nm⟩:=by
 have e2:bQ F v ⟨2,f,bA⟩ = .t (dP F f):=rfl;unfold kH;simp only[Ce,bV,qs,e2];rw[(kL (F:=F) (v:=v) f _).1,(kL (F:=F) (v:=v) f _).2];have hi:∀i∈(aO F f).1,i.num<(dP F f).length:=fun i hi=>((dS (dP F f)).1 i hi).num;rw[(uV (F:=F) (v:=v) f (dP F f) (aO F f).1 _ (aO F f).1 bA hi).1,(uV (F:=F) (v:=v) f (dP F f) (aO F f).1 _ (aO F f).1 bA hi).2];simp only[cW,pK];cases hfl:(aO F f).2 with
 | none=>exact⟨rfl,by simp[qs]⟩
 | some b=>
  simp only;rw[DX (hF f b hfl)];exact⟨rfl,by simp[qs]⟩
theorem nW(hv:jT F v)(hF:pS F)(k:K):bV F (bQ F v) (wp k)=some (bQ F v k)/\qs F (bQ F v) (wp k)=cW F k:=by
 have hok:∀f n,gP (v f n)=true:=fun f n=>by rw[hv.eq];exact Br v f n
 obtain⟨kd,f,nm⟩:=k;unfold wp bQ;simp only;by_cases h1:kd=1
 . subst h1;exact⟨rfl,rfl⟩
 by_cases h2:kd=2
 . subst h2;exact⟨rfl,rfl⟩
 by_cases h3:kd=3
 . subst h3;exact⟨rfl,rfl⟩
 by_cases h4:kd=4
 . subst h4;exact⟨rfl,rfl⟩
 by_cases h5:kd=5
 . subst h5;exact Om f nm
 by_cases h6:kd=6
 . subst h6;exact On f nm
 by_cases h7:kd=7
 . subst h7
   obtain⟨a,b⟩:=Oo hok f nm;exact⟨a.trans (by rw[<-hv.eq];rfl),b⟩
 simp only[h1,h2,h3,h4,h5,h6,h7,if_false];obtain⟨a,b⟩:=Oq (v:=v) hF f nm;refine⟨a,b.trans ?_⟩;unfold cW;simp only[h1,h2,h3,h4,h5,h6,h7,if_false];rfl
theorem jX{k j:K}(h:Lk.slot j∈cW F k):rk j<rk k\/(k.kind=7/\j.kind=7):=by
 obtain⟨kd,f,nm⟩:=k;unfold cW at h;simp only at h;by_cases h1:kd=1
 . subst h1;simp at h
 by_cases h2:kd=2
 . subst h2;simp at h
 by_cases h3:kd=3
 . subst h3;simp at h;subst h;exact .inl (by simp[rk])
 by_cases h4:kd=4
 . subst h4;simp at h;subst h;exact .inl (by simp[rk])
 by_cases h5:kd=5
 . subst h5
   simp at h;rcases h with rfl|h
   . exact .inl (by simp[rk])
   . split at h
     . unfold oH at h
       obtain⟨g,_,e⟩:=List.mem_map.1 h;cases e;exact .inl (by simp[rk])
     . simp at h
 by_cases h6:kd=6
 . subst h6
   simp at h;rcases h with rfl|h
   . exact .inl (by simp[rk])
   . split at h
     . split at h
       . simp at h
       . unfold iS at h
         obtain⟨n,_,hn⟩:=List.mem_flatMap.1 h;unfold rE at hn;rcases List.mem_cons.1 hn with e|hn
         . cases e;exact .inl (by simp[rk])
         . split at hn
           . simp at hn;subst hn;exact .inl (by simp[rk])
           . simp at hn
     . simp at h
 by_cases h7:kd=7
 . subst h7
   replace h:Lk.slot j∈(Lk.slot ⟨6,f,nm⟩::(if (bB (bK F f nm) none_||bB (bK F f nm) eX)=true then [] else .slot ⟨3,f,bA⟩::(match dD F f nm with|none=>[]|some e=>fB F f (aL e [])))):=h;rcases List.mem_cons.1 h with e|h
   . cases e;exact .inl (by simp[rk])
   . split at h
     . simp at h
     . rcases List.mem_cons.1 h with e|h
       . cases e;exact .inl (by simp[rk])
       . split at h
         . simp at h
         . unfold fB at h
           obtain⟨n,_,hn⟩:=List.mem_flatMap.1 h;simp at hn;rcases hn with rfl|rfl
           . exact .inl (by simp[rk])
           . exact .inr ⟨rfl,rfl⟩
 simp only[h1,h2,h3,h4,h5,h6,h7,if_false] at h;have hrk:rk ⟨kd,f,nm⟩=6:=by unfold rk;simp[h1,h2,h3,h4,h5,h6,h7]
 refine .inl ?_;rw[hrk];rcases List.mem_cons.1 h with e|h
 . cases e;simp[rk]
 . rcases List.mem_cons.1 h with e|h
   . cases e;simp[rk]
   . unfold l7 at h
     obtain⟨i,_,hi⟩:=List.mem_flatMap.1 h;unfold l6 at hi;split at hi
     . simp at hi;subst hi;simp[rk]
     . split at hi
       . simp at hi
       . rcases List.mem_cons.1 hi with e|hi
         . cases e;simp[rk]
         . split at hi
           . simp at hi
           . simp at hi;subst hi;simp[rk]
theorem oZ{f nm:ByteArray}{j:K}(h:Lk.slot j∈cW F ⟨7,f,nm⟩)(hj:j.kind=7):∃e,dD F f nm=some e/\∃n∈aL e [],j=⟨7,findF F f n,n⟩:=by
 replace h:Lk.slot j∈(Lk.slot ⟨6,f,nm⟩::(if (bB (bK F f nm) none_||bB (bK F f nm) eX)=true then [] else .slot ⟨3,f,bA⟩::(match dD F f nm with|none=>[]|some e=>fB F f (aL e [])))):=h;rcases List.mem_cons.1 h with e|h
 . cases e;simp at hj
 . split at h
   . simp at h
   . rcases List.mem_cons.1 h with e|h
     . cases e;simp at hj
     . split at h
       . simp at h
       . rename_i e he
         unfold fB at h;obtain⟨n,hn,h2⟩:=List.mem_flatMap.1 h;simp at h2;rcases h2 with rfl|rfl
         . simp at hj
         . exact⟨e,he,n,hn,rfl⟩
theorem vD{a:K->V}(hq:∀k,qs F a (wp k)=cW F k){k j:K}(h:Reach F a wp k j):rk j<=rk k:=by
 refine Reach.ind (P:=fun k j=>rk j<=rk k) ?_ ?_ h
 . exact fun k=>Nat.le_refl _
 . intro k j c h1 _ ih
   rw[hq] at h1;rcases jX h1 with h2|⟨h2,h3⟩
   . omega
   . rw[Gx.2 h3] at ih;rw[Gx.2 h2];exact ih
theorem CY{a:K->V}(hq:∀k,qs F a (wp k)=cW F k){j c:K}(h:Reach F a wp j c):c.kind=7->∀d x,j.kind=7->eL F d j.file j.name=some x->∃y,eL F d c.file c.name=some y:=by
 refine Reach.ind (P:=fun j c=>c.kind=7->∀d x,j.kind=7->eL F d j.file j.name=some x->∃y,eL F d c.file c.name=some y) ?_ ?_ h
 . intro k _ d x _ hx;exact⟨x,hx⟩
 . intro k j c h1 h2 ih hc d x hk hx
   have hr:=vD hq h2;rw[hq] at h1;have hj:j.kind=7:=by
    rcases jX h1 with h3|h3
    . rw[Gx.2 hk] at h3;rw[Gx.2 hc] at hr;omega
    . exact h3.2
   obtain⟨kd,f,nm⟩:=k;simp only at hk;subst hk;obtain⟨e,he,n,hn,rfl⟩:=oZ h1 hj;cases d with
   | zero=>simp[eL] at hx
   | succ d=>
    obtain⟨y,hy⟩:=(l8 hx).1 e he n hn;exact ih hc (d+1) y rfl (zX _ _ _ _ hy)
theorem J6(hv:jT F v)(hq:∀k,qs F (bQ F v) (wp k)=cW F k){k j:K}(h1:Lk.slot j∈qs F (bQ F v) (wp k))(h2:Reach F (bQ F v) wp j k):bQ F v k = .s dA:=by
 have hr:=vD hq h2;rw[hq] at h1;rcases jX h1 with h3|⟨h3,h4⟩
 . omega
 obtain⟨kd,f,nm⟩:=k;simp only at h3;subst h3;obtain⟨e,he,n,hn,rfl⟩:=oZ h1 h4;have hnone:∀d,eL F d f nm=none:=by
  intro d;induction d with
  | zero=>rfl
  | succ d ih=>
   cases hd:eL F (d+1) f nm with
   | none=>rfl
   | some x=>
    obtain⟨y,hy⟩:=(l8 hd).1 e he n hn;obtain⟨z,hz⟩:=CY hq h2 rfl d y rfl hy;rw[ih] at hz;cases hz
 exact congrArg V.s (hv.nn f nm hnone)
theorem BI(hv:jT F v)(hF:pS F):Spec wp (.s dA) F (bQ F v):=
 ⟨fun k=>(nW hv hF k).1,fun _ _ h1 h2=>J6 hv (fun k=>(nW hv hF k).2) h1 h2,fun k j h=>jX (by rw[<-(nW hv hF k).2];exact h)⟩
end
theorem eS{α β:Type}{g:α->List β}{c:Nat}:∀(l:List α),(∀x∈l,(g x).length<=c)->(l.flatMap g).length<=l.length*c
 | [],_=>by simp
 | x::l,h=>by
  rw[List.flatMap_cons,List.length_append,List.length_cons,Nat.add_mul];have h1:=h x (by simp);have h2:=eS l fun y hy=>h y (List.mem_cons_of_mem _ hy);omega
section
variable {F:eV} {v:ByteArray->ByteArray->ByteArray} {fs:List ByteArray}
structure mN (F:eV) (fs:List ByteArray):Prop where
 dom:∀f x,F f=some x->f∈fs/\x.size<=400
 len:fs.length<=6
 sz:∀f∈fs,f.size<=400
theorem mN.txt(h:mN F fs)(f:ByteArray):((F f).getD bA).size<=400:=by
 cases hf:F f with
 | none=>exact Nat.zero_le _
 | some x=>exact (h.dom f x hf).2
theorem Hz:(bY (aN bA)).1 = []:=by kernel_rfl
theorem mN.toks(h:mN F fs)(f:ByteArray):(dP F f).length<=401:=by
 have:=(oF _ (h.txt f)).1.le
 exact this
theorem mN.item(h:mN F fs){f:ByteArray}{i:cL}(hi:i∈(aO F f).1):f∈fs:=by
 cases hf:F f with
 | none=>
  have e:aO F f=bY (aN bA):=by simp[aO,dP,hf]
  rw[e,Hz] at hi;simp at hi
 | some x=>exact (h.dom f x hf).1
theorem mN.its(h:mN F fs)(f:ByteArray):(aO F f).1.length<=401:=Nat.le_trans (dS (dP F f)).2 (h.toks f)
theorem mN.fault(h:mN F fs)(w:World):pS F:=fun f b hb=>rL (oF _ (h.txt f)).1 w b hb
def fH(F:eV)(fs:List ByteArray):List ByteArray:=fs.flatMap fun f=>lX (dP F f)
theorem mN.words(h:mN F fs):(fH F fs).length<=2406:=by
 have:=eS (g:=fun f=>lX (dP F f)) (c:=401) fs fun f _=>by unfold lX;rw[List.length_map];exact h.toks f
 have h2:=h.len;unfold fH;omega
theorem mN.wsz(h:mN F fs){n:ByteArray}(hn:n∈fH F fs):n.size<=400:=by
 obtain⟨f,hf,h1⟩:=List.mem_flatMap.1 hn;obtain⟨t,ht,rfl⟩:=List.mem_map.1 h1;obtain⟨i,hi⟩:=List.getElem?_of_mem ht;exact (nV (h.txt f) hi).1
theorem mN.word(h:mN F fs){f:ByteArray}{i:cL}(hi:i∈(aO F f).1){n:ByteArray}(hn:n∈lX (dP F f)):n∈fH F fs:=List.mem_flatMap.2 ⟨f,h.item hi,hn⟩
theorem vE{g:ByteArray}:∀(its:List cL) (acc:List ByteArray),g∈bS its acc->g∈acc\/∃i∈its,i.name=g
 | [],acc,h=>.inl h
 | i::r,acc,h=>by
  unfold bS at h;split at h
  . rcases vE r _ h with h1|⟨j,h1,h2⟩
    . rcases List.mem_append.1 h1 with h1|h1
      . exact .inl h1
      . simp at h1;exact .inr ⟨i,by simp,h1.symm⟩
    . exact .inr ⟨j,by simp[h1],h2⟩
  . rcases vE r _ h with h1|⟨j,h1,h2⟩
    . exact .inl h1
    . exact .inr ⟨j,by simp[h1],h2⟩
theorem Ae:∀(its:List cL) (acc:List ByteArray),(bS its acc).length<=acc.length+its.length
 | [],acc=>by simp[bS]
 | i::r,acc=>by
  unfold bS;split
  . have:=Ae r (acc ++ [i.name]);simp at this ⊢;omega
  . have:=Ae r acc;simp;omega
theorem mN.exp(h:mN F fs){g nm:ByteArray}(hm:gL (uU F g) nm=true):g∈fs:=by
 cases ht:(aO F g).1 with
 | nil=>
  have:uU F g = []:=by simp[uU,ht,iQ,mP,Lib.compact,Lib.compactUpTo]
  rw[this] at hm;simp[gL] at hm
 | cons i l=>exact h.item (i:=i) (by rw[ht];simp)
theorem mN.used(h:mN F fs)(nm:ByteArray):∀(gs:List ByteArray) (found:ByteArray),kJ F nm gs found=found\/kJ F nm gs found=rY\/kJ F nm gs found∈fs
 | [],found=>.inl rfl
 | g::gs,found=>by
  unfold kJ;split
  . rename_i hm
    rcases h.used nm gs (if bB found none_ then g else rY) with h1|h1
    . rw[h1]
      split
      . exact .inr (.inr (h.exp hm))
      . exact .inr (.inl rfl)
    . exact .inr h1
  . exact h.used nm gs found
theorem mN.find(h:mN F fs)(f nm:ByteArray):findF F f nm=f\/findF F f nm=none_\/findF F f nm=rY\/findF F f nm∈fs:=by
 unfold findF;split
 . rcases h.used nm (bS (aO F f).1 []) none_ with h1|h1
   . exact .inr (.inl h1)
   . exact .inr (.inr h1)
 . exact .inl rfl
 . exact .inr (.inr (.inl rfl))
theorem mN.names(h:mN F fs){f:ByteArray}{i:cL}(hi:i∈(aO F f).1){e:Ex}(he:i.ex=some e):(aL e []).length<=401/\∀n∈aL e [],n∈fH F fs:=by
 have hk:=(dS (dP F f)).1 i hi;have h0:i.kind≠0:=fun h0=>by rw[hk.use h0] at he;cases he
 obtain⟨_,_,e',he',hs,hw⟩:=hk.let' h0;rw[he] at he';cases he';refine⟨?_,fun n hn=>?_⟩
 . have h1:=dR e []
   have h2:=h.toks f;simp at h1;omega
 . rcases (fV n e []).1 hn with h1|h1
   . simp at h1
   . exact h.word hi (hw n h1).1
def dE(fs:List ByteArray)(f0:ByteArray):List ByteArray:=f0::none_::rY::fs
def o0(F:eV)(fs:List ByteArray)(f0 n0:ByteArray):List K:=
 ([5,6,7]:List Nat).flatMap (fun d=>(dE fs f0).flatMap fun f=>(n0::fH F fs).map fun n=>⟨d,f,n⟩)
 ++ ([1,2,3,4,8]:List Nat).flatMap (fun d=>(dE fs f0++fH F fs).map fun f=>⟨d,f,bA⟩)
theorem lG{f0 n0:ByteArray}{k:K}:k∈o0 F fs f0 n0↔(k.kind∈([5,6,7]:List Nat)/\k.file∈dE fs f0/\k.name∈n0::fH F fs)\/(k.kind∈([1,2,3,4,8]:List Nat)/\k.file∈dE fs f0++fH F fs/\k.name=bA):=by
 obtain⟨kd,f,n⟩:=k;unfold o0;rw[List.mem_append,List.mem_flatMap,List.mem_flatMap];constructor
 . rintro (⟨d,hd,h⟩|⟨d,hd,h⟩)
   . obtain⟨g,hg,h⟩:=List.mem_flatMap.1 h
     obtain⟨m,hm,h⟩:=List.mem_map.1 h;cases h;exact .inl ⟨hd,hg,hm⟩
   . obtain⟨g,hg,h⟩:=List.mem_map.1 h
     cases h;exact .inr ⟨hd,hg,rfl⟩
 . rintro (⟨h1,h2,h3⟩|⟨h1,h2,h3⟩)
   . exact .inl ⟨kd,h1,List.mem_flatMap.2 ⟨f,h2,List.mem_map.2 ⟨n,h3,rfl⟩⟩⟩
   . simp only at h3
     subst h3;exact .inr ⟨kd,h1,List.mem_map.2 ⟨f,h2,rfl⟩⟩
theorem D0(h:mN F fs)(f0 n0:ByteArray):(o0 F fs f0 n0).length<=77064:=by
 have h1:=h.words;have h2:=h.len;have a1:=eS (g:=fun d=>(dE fs f0).flatMap fun f=>(n0::fH F fs).map fun n=>(⟨d,f,n⟩:K)) (c:=9*2407) ([5,6,7]:List Nat) fun d _=>by
  have b1:=eS (g:=fun f=>(n0::fH F fs).map fun n=>(⟨d,f,n⟩:K)) (c:=2407) (dE fs f0) fun f _=>by simp;omega
  refine Nat.le_trans b1 (Nat.mul_le_mul_right _ ?_);simp[dE];omega
 have a2:=eS (g:=fun d=>(dE fs f0++fH F fs).map fun f=>(⟨d,f,bA⟩:K)) (c:=2415) ([1,2,3,4,8]:List Nat) fun d _=>by
  simp[dE];omega
 unfold o0;rw[List.length_append];simp only[List.length_cons,List.length_nil] at a1 a2;omega
theorem rN(h:mN F fs){f0 f:ByteArray}(hf:f∈dE fs f0)(nm:ByteArray):findF F f nm∈dE fs f0:=by
 rcases h.find f nm with h1|h1|h1|h1
 . rw[h1];exact hf
 . rw[h1];simp[dE]
 . rw[h1];simp[dE]
 . simp[dE,h1]
theorem H5(h:mN F fs){f0 n0:ByteArray}{k j:K}(hk:k∈o0 F fs f0 n0)(hj:Lk.slot j∈cW F k):j∈o0 F fs f0 n0:=by
 have hfile:∀d,d∈([1,2,3,4,8]:List Nat)->∀f,f∈dE fs f0++fH F fs->(⟨d,f,bA⟩:K)∈o0 F fs f0 n0:=fun d hd f hf=>lG.2 (.inr ⟨hd,hf,rfl⟩);have hname:∀d,d∈([5,6,7]:List Nat)->∀f,f∈dE fs f0->∀n,n∈n0::fH F fs->(⟨d,f,n⟩:K)∈o0 F fs f0 n0:=fun d hd f hf n hn=>lG.2 (.inl ⟨hd,hf,hn⟩);have hul:∀f,f∈dE fs f0->f∈dE fs f0++fH F fs:=fun f hf=>List.mem_append_left _ hf;have hfs:∀f,f∈fs->f∈dE fs f0:=fun f hf=>by simp[dE,hf]
 obtain⟨kd,f,n⟩:=k;rcases lG.1 hk with ⟨h1,h2,h3⟩|⟨h1,h2,h3⟩
 . simp only[List.mem_cons,List.not_mem_nil,or_false] at h1
   rcases h1 with rfl|rfl|rfl
   . replace hj:Lk.slot j∈(Lk.slot ⟨3,f,bA⟩::(match aU n (aO F f).1 with | []=>oH (bS (aO F f).1 [])|_=>[])):=hj
     rcases List.mem_cons.1 hj with e|hj
     . cases e;exact hfile 3 (by simp) f (hul f h2)
     . split at hj
       . unfold oH at hj
         obtain⟨g,hg,e⟩:=List.mem_map.1 hj;cases e;refine hfile 4 (by simp) g (List.mem_append_right _ ?_);rcases vE _ _ hg with h4|⟨i,hi,rfl⟩
         . simp at h4
         . exact h.word hi ((dS (dP F f)).1 i hi).name.2
       . simp at hj
   . replace hj:Lk.slot j∈(Lk.slot ⟨3,f,bA⟩::(match aU n (aO F f).1 with | [i]=>(match i.ex with|none=>[]|some e=>iS F f (aL e []))|_=>[])):=hj
     rcases List.mem_cons.1 hj with e|hj
     . cases e;exact hfile 3 (by simp) f (hul f h2)
     . split at hj
       . rename_i i hi
         have hit:i∈(aO F f).1:=(fX (nm:=n) (by rw[hi];simp)).1;split at hj
         . simp at hj
         . rename_i e he
           unfold iS at hj;obtain⟨m,hm,hj⟩:=List.mem_flatMap.1 hj;have hmw:=(h.names hit he).2 m hm;unfold rE at hj;rcases List.mem_cons.1 hj with e1|hj
           . cases e1
             exact hname 5 (by simp) f h2 m (List.mem_cons_of_mem _ hmw)
           . split at hj
             . simp at hj
               subst hj;exact hfile 3 (by simp) _ (hul _ (rN h h2 m))
             . simp at hj
       . simp at hj
   . replace hj:Lk.slot j∈(Lk.slot ⟨6,f,n⟩::(if (bB (bK F f n) none_||bB (bK F f n) eX)=true then [] else .slot ⟨3,f,bA⟩::(match dD F f n with|none=>[]|some e=>fB F f (aL e [])))):=hj
     rcases List.mem_cons.1 hj with e|hj
     . cases e;exact hname 6 (by simp) f h2 n h3
     . split at hj
       . simp at hj
       . rcases List.mem_cons.1 hj with e|hj
         . cases e;exact hfile 3 (by simp) f (hul f h2)
         . split at hj
           . simp at hj
           . rename_i e he
             obtain⟨_,i,hi1,hi2,_⟩:=qJ he;have hit:i∈(aO F f).1:=(fX (nm:=n) (by rw[hi1];simp)).1;unfold fB at hj;obtain⟨m,hm,hj⟩:=List.mem_flatMap.1 hj;have hmw:=(h.names hit hi2).2 m hm;simp at hj;rcases hj with rfl|rfl
             . exact hname 5 (by simp) f h2 m (List.mem_cons_of_mem _ hmw)
             . exact hname 7 (by simp) _ (rN h h2 m) m (List.mem_cons_of_mem _ hmw)
 . simp only at h3
   subst h3;simp only[List.mem_cons,List.not_mem_nil,or_false] at h1;rcases h1 with rfl|rfl|rfl|rfl|rfl
   . simp[cW] at hj
   . simp[cW] at hj
   . simp[cW] at hj
     subst hj;exact hfile 2 (by simp) f h2
   . simp[cW] at hj
     subst hj;exact hfile 3 (by simp) f h2
   . replace hj:Lk.slot j∈(Lk.slot ⟨2,f,bA⟩::.slot ⟨3,f,bA⟩::l7 F f (aO F f).1 (aO F f).1):=hj
     rcases List.mem_cons.1 hj with e|hj
     . cases e;exact hfile 2 (by simp) f h2
     . rcases List.mem_cons.1 hj with e|hj
       . cases e;exact hfile 3 (by simp) f h2
       . unfold l7 at hj
         obtain⟨i,hi,hj⟩:=List.mem_flatMap.1 hj;have hnw:=h.word hi ((dS (dP F f)).1 i hi).name.2;have hff:=hfs f (h.item hi);unfold l6 at hj;split at hj
         . simp at hj
           subst hj;exact hfile 1 (by simp) _ (List.mem_append_right _ hnw)
         . split at hj
           . simp at hj
           . rcases List.mem_cons.1 hj with e|hj
             . cases e;exact hname 6 (by simp) f hff _ (List.mem_cons_of_mem _ hnw)
             . split at hj
               . simp at hj
               . simp at hj
                 subst hj;exact hname 7 (by simp) f hff _ (List.mem_cons_of_mem _ hnw)
theorem H7(f:ByteArray)(ns:List ByteArray):(iS F f ns).length<=ns.length*2:=eS ns fun n _=>by
 unfold rE;split <;> simp
theorem E0(f:ByteArray)(ns:List ByteArray):(fB F f ns).length<=ns.length*2:=eS ns fun n _=>by simp
theorem Ia(f:ByteArray)(its l:List cL):(l7 F f its l).length<=l.length*2:=eS l fun i _=>by
 unfold l6;split
 . simp
 . split
   . simp
   . split <;> simp
theorem Ib(h:mN F fs)(k:K):(cW F k).length+2<=1024:=by
 obtain⟨kd,f,n⟩:=k;unfold cW;split
 . simp
 split
 . simp
 split
 . simp
 split
 . simp
 split
 . rw[List.length_cons]
   split
   . unfold oH
     rw[List.length_map];have:=Ae (aO F f).1 []
     have:=h.its f
     simp at *;omega
   . simp
 split
 . rw[List.length_cons]
   split
   . rename_i i hi
     have hit:i∈(aO F f).1:=(fX (nm:=n) (by rw[show aU n (aO F f).1 = [i] from hi];simp)).1;split
     . simp
     . rename_i e he
       have h1:=(h.names hit he).1;have h2:=H7 (F:=F) f (aL e []);simp only at h2 ⊢;omega
   . simp
 split
 . rw[List.length_cons]
   split
   . simp
   . rw[List.length_cons]
     split
     . simp
     . rename_i e he
       obtain⟨_,i,hi1,hi2,_⟩:=qJ he;have hit:i∈(aO F f).1:=(fX (nm:=n) (by rw[hi1];simp)).1;have h1:=(h.names hit hi2).1;have h2:=E0 (F:=F) f (aL e []);simp only at h2 ⊢;omega
 . rw[List.length_cons,List.length_cons]
   have h1:=Ia (F:=F) f (aO F f).1 (aO F f).1;have h2:=h.its f;simp only at h1 ⊢;omega
theorem Ic(h:mN F fs)(w:World)(hv:jT F v){f0 n0:ByteArray}(hf0:f0.size<=cD)(hn0:n0.size<=cD):Lu wp F (bQ F v) (o0 F fs f0 n0) 1024:=by
 have hq:∀k,qs F (bQ F v) (wp k)=cW F k:=fun k=>(nW hv (h.fault w) k).2;have hF:∀f,f∈dE fs f0->f.size<=cD:=fun f hf=>by
  simp only[dE,List.mem_cons] at hf;rcases hf with rfl|rfl|rfl|hf
  . exact hf0
  . decide
  . decide
  . exact Nat.le_trans (h.sz f hf) (by decide)
 have hW:∀n,n∈fH F fs->n.size<=cD:=fun n hn=>Nat.le_trans (h.wsz hn) (by decide);have hsz:∀k∈o0 F fs f0 n0,k.file.size<=cD/\k.name.size<=cD:=fun k hk=>by
  rcases lG.1 hk with ⟨_,h2,h3⟩|⟨_,h2,h3⟩
  . refine⟨hF _ h2,?_⟩
    rcases List.mem_cons.1 h3 with h4|h4
    . rw[h4];exact hn0
    . exact hW _ h4
  . refine⟨?_,by rw[h3];decide⟩
    rcases List.mem_append.1 h2 with h4|h4
    . exact hF _ h4
    . exact hW _ h4
 refine⟨fun k hk j hj=>H5 h hk (by rw[<-hq];exact hj),fun k _=>by rw[hq];exact Ib h k,by decide,hsz,fun k hk f hf=>?_⟩;rw[hq] at hf;have h1:=(hsz k hk).1;obtain⟨kd,g,n⟩:=k;rcases lG.1 hk with ⟨h2,_⟩|⟨h2,_⟩
 . exfalso
   simp only[List.mem_cons,List.not_mem_nil,or_false] at h2;rcases h2 with rfl|rfl|rfl
   . replace hf:Lk.src f∈(Lk.slot ⟨3,g,bA⟩::(match aU n (aO F g).1 with | []=>oH (bS (aO F g).1 [])|_=>[])):=hf
     rcases List.mem_cons.1 hf with e|hf
     . cases e
     . split at hf
       . obtain⟨_,_,e⟩:=List.mem_map.1 hf;cases e
       . simp at hf
   . replace hf:Lk.src f∈(Lk.slot ⟨3,g,bA⟩::(match aU n (aO F g).1 with | [i]=>(match i.ex with|none=>[]|some e=>iS F g (aL e []))|_=>[])):=hf
     rcases List.mem_cons.1 hf with e|hf
     . cases e
     . split at hf
       . split at hf
         . simp at hf
         . obtain⟨m,_,hm⟩:=List.mem_flatMap.1 hf
           unfold rE at hm;rcases List.mem_cons.1 hm with e|hm
           . cases e
           . split at hm
             . simp at hm
             . simp at hm
       . simp at hf
   . replace hf:Lk.src f∈(Lk.slot ⟨6,g,n⟩::(if (bB (bK F g n) none_||bB (bK F g n) eX)=true then [] else .slot ⟨3,g,bA⟩::(match dD F g n with|none=>[]|some e=>fB F g (aL e [])))):=hf
     rcases List.mem_cons.1 hf with e|hf
     . cases e
     . split at hf
       . simp at hf
       . rcases List.mem_cons.1 hf with e|hf
         . cases e
         . split at hf
           . simp at hf
           . obtain⟨m,_,hm⟩:=List.mem_flatMap.1 hf
             simp at hm
 . simp only[List.mem_cons,List.not_mem_nil,or_false] at h2
   rcases h2 with rfl|rfl|rfl|rfl|rfl
   . simp[cW] at hf;rw[hf];exact h1
   . simp[cW] at hf;rw[hf];exact h1
   . simp[cW] at hf
   . simp[cW] at hf
   . exfalso
     replace hf:Lk.src f∈(Lk.slot ⟨2,g,bA⟩::.slot ⟨3,g,bA⟩::l7 F g (aO F g).1 (aO F g).1):=hf;rcases List.mem_cons.1 hf with e|hf
     . cases e
     . rcases List.mem_cons.1 hf with e|hf
       . cases e
       . obtain⟨i,_,hi⟩:=List.mem_flatMap.1 hf
         unfold l6 at hi;split at hi
         . simp at hi
         . split at hi
           . simp at hi
           . rcases List.mem_cons.1 hi with e|hi
             . cases e
             . split at hi
               . simp at hi
               . simp at hi
end
def dG:ByteArray:=⟨#[112,117,98,32,108,101,116,32,113,58,105,110,116,32,61,32,50,32,42,32,51,32,43,32,119,59,32,108,101,116,32,119,58,105,110,116,32,61,32,52,59]⟩
def zF:ByteArray:=⟨#[122]⟩
def qN:ByteArray:=⟨#[113]⟩
def nF:eV:=fun g=>if g=zF then some dG else none
theorem E1:eL nF 3 zF qN=some ⟨#[49,48]⟩:=by kernel_rfl
theorem Ie:mN nF [zF]:=by
 refine⟨fun f x h=>?_,by decide,fun f hf=>?_⟩
 . unfold nF at h
   split at h
   . rename_i he
     cases h;exact⟨by simp[he],by decide⟩
   . cases h
 . simp at hf;subst hf;decide
theorem E2{v:ByteArray->ByteArray->ByteArray}(hv:jT nF v):bQ nF v ⟨7,zF,qN⟩ = .s ⟨#[49,48]⟩:=congrArg V.s (hv.sm 3 zF qN _ E1)
end Go.Proofs.YthibodlojlkppaaGreatDoor
namespace Go.Proofs.YthibodlojlkppaaGreatDoor
variable [DecidableEq K] [LawfulBEq Lk]
section
variable {V:Type}
def Mn(k:K):Prop:=(k.file.size<=cD/\k.name.size<=cD)/\k.kind<=8
def cA:Prog V->Prop
 | ⟨.inl _,_⟩=>True
 | ⟨.inr (.inl _),_⟩=>True
 | ⟨.inr (.inr (.inl _)),c⟩=>∀o,cA (c o)
 | ⟨.inr (.inr (.inr k)),c⟩=>k.kind<=8/\∀v,cA (c v)
def dQ(st:St V):Prop:=st.began.length<=cD/\∀k∈st.began,Mn k
structure jY (E:eF V):Prop where
 beg:∀j st out st',E j st=some (out,st')->Mn j->dQ st->dQ st'
theorem vF{st:St V}{k:K}(h:dQ st):dQ (st.find k):=by unfold St.find;split <;> exact h
theorem CZ{st:St V}{f:ByteArray}(h:dQ st):dQ (st.source f):=by unfold St.source;split <;> exact h
theorem D1{st:St V}{k:K}(h:dQ st):dQ (st.use k):=by unfold St.use;split <;> exact h
theorem qM{st:St V}{k:K}(h:dQ st):dQ (st.leave k):=by unfold St.leave;split <;> exact h
theorem vG{st st':St V}{k:K}{v:V}(ha:answer st k v=some st')(h:dQ st):dQ st':=by
 unfold answer at ha;split at ha
 . cases ha
 . split at ha
   . cases ha;exact D1 h
   . cases ha
theorem pT{E:eF V}(hE:jY E){nc:Bool}{j:K}{lk:List Lk}{st:St V}{out:Out (V×List Lk)}{st':St V}(h:cE E nc j lk st=some (out,st'))(hj:j.kind<=8)(hb:dQ st):dQ st':=by
 have hz:Mn j:=⟨pH h,hj⟩
 unfold cE at h;split at h
 . cases h
 split at h
 . obtain⟨v,_,e⟩:=Option.map_eq_some_iff.1 h
   cases e;exact vF hb
 . split at h
   . rename_i st2 he
     split at h
     . obtain⟨v,_,e⟩:=Option.map_eq_some_iff.1 h
       cases e;exact hE.beg _ _ _ _ he hz (vF hb)
     . cases h
   . rename_i c st2 he
     split at h
     . cases h
     . cases h
       exact hE.beg _ _ _ _ he hz (vF hb)
   . cases h
theorem s9{E:eF V}(hE:jY E){nc:Bool}:∀(p:Prog V) (lk:List Lk) (st:St V) (out:Out (V×List Lk)) (st':St V),cA p->run E nc p lk st=some (out,st')->dQ st->dQ st'
 | ⟨.inl v,_⟩,lk,st,out,st',_,h,hb=>by cases h;exact hb
 | ⟨.inr (.inl _),_⟩,lk,st,out,st',_,h,hb=>by cases h
 | ⟨.inr (.inr (.inl f)),c⟩,lk,st,out,st',hg,h,hb=>by
  simp only[run] at h;split at h
  . exact s9 hE _ _ _ _ _ (hg _) h (CZ hb)
  . cases h
 | ⟨.inr (.inr (.inr j)),c⟩,lk,st,out,st',hg,h,hb=>by
  simp only[run] at h;split at h
  . rename_i v lk' st2 he
    exact s9 hE _ _ _ _ _ (hg.2 v) h (pT hE he hg.1 hb)
  . rename_i c' st2 he
    cases h;exact pT hE he hg.1 hb
  . cases h
theorem rO{wp:K->Prog V}(hw:∀k,cA (wp k)){E:eF V}(hE:jY E){j:K}{st st':St V}{out:Out Unit}(h:workOut wp E j st=some (out,st'))(hj:Mn j)(hb:dQ st):dQ st':=by
 unfold workOut at h;split at h
 . rename_i hlt
   have hb1:dQ {st with began:=st.began ++ [j]}:=⟨by simp;omega,fun k hk=>by
    rcases List.mem_append.1 hk with h1|h1
    . exact hb.2 k h1
    . simp at h1;rw[h1];exact hj⟩
   split at h
   . rename_i v lk st2 he
     obtain⟨s,hs,e⟩:=Option.map_eq_some_iff.1 h;cases e;exact vG hs (s9 hE _ _ _ _ _ (hw j) he hb1)
   . rename_i c st2 he
     cases h;exact s9 hE _ _ _ _ _ (hw j) he hb1
   . cases h
 . cases h
theorem qO{wp:K->Prog V}(hw:∀k,cA (wp k)){E:eF V}(hE:jY E){j:K}{st st':St V}{out:Out Unit}(h:inner wp E j st=some (out,st'))(hj:Mn j)(hb:dQ st):dQ st':=by
 unfold inner at h;split at h
 . cases h
 . split at h
   . split at h
     . cases h
       exact D1 hb
     . exact rO hw hE h hj hb
   . split at h
     . exact rO hw hE h hj hb
     . cases h
theorem BJ{wp:K->Prog V}(hw:∀k,cA (wp k)){lp:V}{E:eF V}(hE:jY E):jY (dK wp lp E):=⟨by
 intro j st out st' h hj hb;unfold dK at h;split at h
 . cases h
 . rename_i m hm
   split at h
   . split at h
     . cases h
     . cases h;exact hb
   . have hb1:dQ (st.put j {m with act:=true}):=hb
     split at h
     . cases h
     . rename_i st2 he
       cases h;exact qM (qO hw hE he hj hb1)
     . rename_i c st2 he
       split at h
       . obtain⟨s,hs,e⟩:=Option.map_eq_some_iff.1 h
         cases e;exact qM (vG hs (qO hw hE he hj hb1))
       . split at h
         . cases h
         . cases h
           exact qM (qO hw hE he hj hb1)⟩
theorem vH{wp:K->Prog V}(hw:∀k,cA (wp k)){lp:V}:∀n,jY (pC wp lp n)
 | 0=>⟨fun _ _ _ _ h=>(by cases h)⟩
 | n+1=>BJ hw (vH hw n)
end
end Go.Proofs.YthibodlojlkppaaGreatDoor
namespace Go.Proofs.YthibodlojlkppaaGreatDoor
open Go.RowKit
variable [DecidableEq K] [LawfulBEq Lk]
theorem o4{k:K}{c:ByteArray->Prog V}(hk:k.kind<=8)(h:∀b,cA (c b)):cA (oM k c):=⟨hk,fun v=>by
 rcases v with l|⟨l,b⟩|l|b
 . trivial
 . trivial
 . trivial
 . exact h b⟩
theorem Ig{f:ByteArray}{c:List Tok->Prog V}(h:∀b,cA (c b)):cA (Ce f c):=⟨by show 2<=8;omega,fun v=>by
 rcases v with l|⟨l,b⟩|l|b
 . exact h l
 . trivial
 . trivial
 . trivial⟩
theorem qP{f:ByteArray}{c:List cL->Option Nat->Prog V}(h:∀a b,cA (c a b)):cA (p8 f c):=⟨by show 3<=8;omega,fun v=>by
 rcases v with l|⟨l,b⟩|l|b
 . trivial
 . exact h l b
 . trivial
 . trivial⟩
theorem LR{f:ByteArray}{c:List ByteArray->Prog V}(h:∀b,cA (c b)):cA (Jo f c):=⟨by show 4<=8;omega,fun v=>by
 rcases v with l|⟨l,b⟩|l|b
 . trivial
 . trivial
 . exact h l
 . trivial⟩
theorem qQ(nm:ByteArray){c:ByteArray->Prog V}(h:∀b,cA (c b)):∀(fs:List ByteArray) (found:ByteArray),cA (pE nm c fs found)
 | [],found=>h found
 | f::fs,found=>LR fun l=>by
  split
  . exact qQ nm h fs _
  . exact qQ nm h fs _
theorem E3(f nm:ByteArray){c:ByteArray->Prog V}(h:∀b,cA (c b)):cA (xF f nm c):=o4 (by show 5<=8;omega) fun g=>by
 split
 . refine qP fun its _=>?_
   split
   . exact h _
   . exact h _
 . exact h _
theorem vI(f:ByteArray){c:(ByteArray->ByteArray)->Prog V}(h:∀b,cA (c b)):∀(ns:List ByteArray) (M:ByteArray->ByteArray),cA (mQ f c ns M)
 | [],M=>h M
 | n::ns,M=>E3 f n fun t=>vI f h ns _
theorem rP(f:ByteArray){c:ByteArray->(ByteArray->Int)->Prog V}(h:∀a b,cA (c a b)):∀(ns:List ByteArray) (fault:ByteArray) (M:ByteArray->Int),cA (lR f c ns fault M)
 | [],fault,M=>h fault M
 | n::ns,fault,M=>o4 (by show 5<=8;omega) fun g=>o4 (by show 7<=8;omega) fun v=>by
  split
  . exact rP f h ns _ _
  . trivial
theorem C0(f:ByteArray)(its:List cL)(i:cL){c:ByteArray->Prog V}(h:∀b,cA (c b)):cA (kP f its i c):=by
 unfold kP;split
 . exact o4 (by show 1<=8;omega) fun v=>h _
 . split
   . exact h _
   . refine o4 (by show 6<=8;omega) fun t=>?_
     split
     . exact h _
     . exact o4 (by show 7<=8;omega) fun v=>h _
theorem x8(toks:List Tok)(num:Nat)(word out:ByteArray){c:ByteArray->Prog V}(h:∀b,cA (c b)):cA (mR toks num word out c):=by
 unfold mR;split
 . exact h _
 . split
   . trivial
   . exact h _
theorem vJ(f:ByteArray)(toks:List Tok)(its:List cL){c:ByteArray->Prog V}(h:∀b,cA (c b)):∀(l:List cL) (out:ByteArray),cA (gT f toks its c l out)
 | [],out=>h out
 | i::r,out=>C0 f its i fun w=>x8 toks i.num w out fun o=>vJ f toks its h r o
theorem D2(k:K):cA (wp k):=by
 unfold wp;split
 . exact fun _=>trivial
 split
 . exact fun _=>trivial
 split
 . exact Ig fun _=>trivial
 split
 . exact qP fun _ _=>trivial
 split
 . refine qP fun its _=>?_
   split
   . refine qQ _ ?_ _ _
     exact fun _=>trivial
   . trivial
   . trivial
 split
 . refine qP fun its _=>?_
   split
   . split
     . trivial
     . refine vI _ ?_ _ _
       exact fun _=>trivial
   . trivial
 split
 . refine o4 (by show 6<=8;omega) fun kd=>?_
   split
   . trivial
   . refine qP fun its _=>?_
     split
     . trivial
     . split
       . trivial
       . refine rP _ ?_ _ _ _
         exact fun _ _=>trivial
 . refine Ig fun toks=>qP fun its fl=>vJ _ _ _ (fun out=>?_) _ _
   split
   . trivial
   . refine x8 _ _ _ _ ?_
     exact fun _=>trivial

def St.change(st:St V)(f:ByteArray):St V:={st with rev:=st.rev+1,src:=fun g=>if g=f then some (st.rev+1) else (st.source f).src g}
def St.setF(st:St V)(f t:ByteArray):St V:={st.change f with files:=fun g=>if g=f then some t else st.files g}
theorem bN.rev{st:St V}{L:aM}{bs:Nat}{fm:Value}{w:World}(h:bN st L none bs fm w)(n:Nat):bN {st with rev:=n} L none bs fm (w.setCell ⟨bs,1,none⟩ (.int .i64 n))/\Next st {st with rev:=n} L L w (w.setCell ⟨bs,1,none⟩ (.int .i64 n)):=by
 obtain⟨q,sm,bg,kv,arr,h⟩:=h;have h1:ENGp {st with rev:=n} L none bs fm q sm bg kv arr (w.setCell ⟨bs,1,none⟩ (.int .i64 n)):=by
  refine h.toENGp.sess (st':={st with rev:=n}) (fun b hb=>aD hb _) (by simp) (aH h.s _) rfl rfl rfl (h.bg.keep fun b cs hb=>?_);rw[aD (fun e=>?_)]
  . exact hb
  . rw[e,h.s] at hb;injection hb with hb;injection hb with _ hb;exact absurd hb (by decide)
 exact⟨⟨q,sm,bg,kv,arr,h1,h.heap⟩,⟨fun _ h=>⟨h,rfl⟩,fun _ h=>⟨h,rfl⟩,fun _ h=>.inl h,(FR.refl _ _).setCell _ (.inl h.bo) _⟩⟩
theorem bN.chg{st:St V}{L:aM}{bs:Nat}{fm:Value}{w:World}(h:bN st L none bs fm w){f:ByteArray}{c:Nat}(hf:st.src f=some c)(n:Nat):bN {st with src:=fun g=>if g=f then some n else st.src g} L none bs fm (w.setCell ⟨L.sb f,0,none⟩ (.int .i64 n))/\Next st {st with src:=fun g=>if g=f then some n else st.src g} L L w (w.setCell ⟨L.sb f,0,none⟩ (.int .i64 n)):=by
 obtain⟨q,sm,bg,kv,arr,h⟩:=h;obtain⟨ho,hb0⟩:=h.srb f c hf;have hcs:∀(b:Nat) (cs:Array Value) (T:TypeId),T≠162->w.heap[b]? = some (.cells cs T)->(w.setCell ⟨L.sb f,0,none⟩ (.int .i64 n)).heap[b]? = some (.cells cs T):=fun b cs T hT hb=>(aD (fun e=>by
  rw[e,hb0] at hb;injection hb with hb;injection hb with _ hb;exact hT hb.symm) _).trans hb
 have hmp:∀(b:Nat) (es:Array MapEntry) (k:Nat),w.heap[b]? = some (.map es k)->(w.setCell ⟨L.sb f,0,none⟩ (.int .i64 n)).heap[b]? = some (.map es k):=fun b es k hb=>(aD (fun e=>by
  rw[e,hb0] at hb;injection hb with hb;cases hb) _).trans hb
 have hfr:FR L.own w (w.setCell ⟨L.sb f,0,none⟩ (.int .i64 n)):=(FR.refl _ _).setCell _ (.inl ho) _;have hsn:∀g,(if g=f then some n else st.src g)≠none↔st.src g≠none:=fun g=>by
  by_cases hg:g=f
  . subst hg;simp[hf]
  . simp[hg]
 have hT:=fun k=>fU (k:=k);refine⟨⟨q,sm,bg,kv,arr,⟨⟨hcs _ _ _ (by decide) h.s,h.bo,fun b hb=>by simpa using h.olt b hb,?_,fun g d hg=>?_,fun g1 g2 h1 h2=>h.sri g1 g2 ((hsn g1).1 h1) ((hsn g2).1 h2),h.qm,h.sm.keep hmp,h.bg.keep fun b cs=>hcs b cs _ (by decide),h.kv.keep fun b cs=>hcs b cs _ (by decide),h.perm,h.nd,h.kl,h.ex,fun j m hj=>?_⟩,h.heap⟩⟩,⟨fun _ h=>⟨h,rfl⟩,fun g hg=>⟨(hsn g).2 hg,rfl⟩,fun _ h=>.inl h,hfr⟩⟩
 . rcases h.sr.keep hmp with ⟨h1,h2⟩|⟨b,es,k,h1,h2,h3,fs,h4,h5,h6⟩
   . exact absurd (h2 f) (by rw[hf];simp)
   . exact .inr ⟨b,es,k,h1,h2,h3,fs,h4,h5,fun g=>(h6 g).trans (hsn g).symm⟩
 . by_cases hgf:g=f
   . subst hgf
     simp at hg;subst hg;refine⟨ho,?_⟩;exact aH (i:=0) hb0 _
   . simp[hgf] at hg
     obtain⟨a,b⟩:=h.srb g d hg;refine⟨a,(aD (fun e=>hgf ?_) _).trans b⟩;exact h.sri g f (by rw[hg];simp) (by rw[hf];simp) e
 . have hc:=h.cell j m hj
   obtain⟨x,vs,a,b⟩:=hc.ex;exact⟨⟨x,vs,hcs _ _ _ (hT j).2.1 a,b.next hfr fun i h=>.inl h⟩,hc.own⟩
theorem bN.cell1{st:St V}{L:aM}{bs:Nat}{fm:Value}{w:World}(h:bN st L none bs fm w):w.cell? ⟨bs,1,none⟩=some (.int .i64 st.rev)/\w.frozen? ⟨bs,1,none⟩=false:=by
 obtain⟨q,sm,bg,kv,arr,hx⟩:=h;exact⟨aA (i:=1) hx.s,aE hx.s⟩
theorem bN.src0{st:St V}{L:aM}{bs:Nat}{fm:Value}{w:World}(h:bN st L none bs fm w){f:ByteArray}{c:Nat}(hf:st.src f=some c):w.cell? ⟨L.sb f,0,none⟩=some (.int .i64 c)/\w.frozen? ⟨L.sb f,0,none⟩=false:=by
 obtain⟨q,sm,bg,kv,arr,hx⟩:=h;have:=(hx.srb f c hf).2
 exact⟨aA (i:=0) this,aE this⟩
theorem C1(st:St V)(f:ByteArray):(st.source f).rev=st.rev:=by unfold St.source;split <;> rfl
theorem E4(st:St V)(f:ByteArray):({({st with rev:=st.rev+1}:St V).source f with src:=fun g=>if g=f then some (st.rev+1) else (({st with rev:=st.rev+1}:St V).source f).src g}:St V)=st.change f:=by
 have e:(({st with rev:=st.rev+1}:St V).source f)={st.source f with rev:=st.rev+1}:=by
  unfold St.source;cases st.src f <;> simp
 rw[e];unfold St.change St.source;cases st.src f <;> simp
theorem D3{st:St V}{L:aM}{bs:Nat}{fm:Value}{w:World}(h:bN st L none bs fm w)(f:ByteArray)(hfl:f.size<=cD)(hr:st.rev<1000) :
 Calls Tryz.prog 53 #[.pointer (some ⟨bs,1,none⟩),.string f] w fun e w'=>e = .returned (.tuple #[])/\∃L',bN (st.change f) L' none bs fm w'/\Next st (st.change f) L L' w w':=by
 obtain⟨c1,f1⟩:=h.cell1;have HR:=hid (h.rev (st.rev+1));have HCH:=hid (E4 st f);have HFL:=hid hfl;have e1:((st.rev+1:Nat):Int)=(st.rev:Int)+1:=by omega
 have hr1:(st.rev:Int)<1000:=by omega
 have hr0:(0:Int)<=(st.rev:Int):=by omega
 rw[e1] at HR;have HE1:=hid e1;obtain⟨S,hS⟩:∃S:St V,S={st with rev:=st.rev+1}:=⟨_,rfl⟩
 rw[<-hS] at HR HCH;have HSR:Hid ((S.rev:Int)=(st.rev:Int)+1):=hid (by rw[hS];exact e1);have HN0:Hid (S.rev=st.rev+1):=hid (by rw[hS]);clear h hfl hr e1 hS;obtain⟨z,hz⟩:∃z:Int,z=(st.rev:Int):=⟨_,rfl⟩
 rw[<-hz] at c1 hr1 hr0 HSR HR;have HZ:=hid hz;clear hz;go_enter Tryz.func53,Tryz.ntmps53;go_wp2;generalize w.setCell ⟨bs,1,none⟩ (.int .i64 (z+1))=W at HR ⊢;have d1:W.cell? ⟨bs,1,none⟩=some (.int .i64 (z+1)):=by rw[<-HSR.out];exact HR.out.1.cell1.1
 clear c1 f1;go_region_with (go_at_call 84;go_must (refine (DQ (bN.below HR.out.1 (by first|exact Below.refl _ _|exact below_drewN _ _)) f HFL.out).mono ?_;rintro e w'⟨L',rfl,hE,hN⟩;have HE:=hid (And.intro hE hN);have d1':w'.cell? ⟨bs,1,none⟩=some (.int .i64 (z+1)):=(by rw[<-HSR.out,<-C1 S f];exact hE.cell1.1);obtain⟨cc,hcc⟩:=Option.ne_none_iff_exists'.1 (xI S f);have s0:=(hE.src0 hcc).1;have k0:=(hE.src0 hcc).2;have HCC:=hid hcc;clear hE hN hcc))
 all_goals go_wp2
 all_goals go_end0
 all_goals
  have hz:(((st.rev+1:Nat):Int))=z+1:=by rw[HZ.out];exact HE1.out
  have hc:=HE.out.1.chg HCC.out (st.rev+1);rw[hz,HCH.out] at hc;refine⟨rfl,L',?_,?_⟩
  . first
     | exact hc.1
     | exact hc.1.below (below_drewN _ _)
  . first
     | exact (HR.out.2.trans HE.out.2).trans hc.2
     | exact ((HR.out.2.trans HE.out.2).trans hc.2).below (below_drewN _ _)
     | exact ((HR.out.2.below (below_drewN _ _)).trans HE.out.2).trans hc.2
structure qR (W0:World) (fs:List (ByteArray×ByteArray)) (F:ByteArray->Option ByteArray) (L:aM) (fm:Value) (w:World):Prop where
 mp:(fm = .map none/\fs = [])\/∃b es n,fm = .map (some b)/\W0.heap.size<=b/\¬L.own b/\w.heap[b]? = some (.map es n)/\es.toList.map (fun e=>(e.key,e.val))=fs.map (fun p=>(.string p.1,.agg #[.string p.2]))
 nd:(fs.map (·.1)).Nodup
 fl:∀f x,(f,x)∈fs↔F f=some x
 sz:∀f x,F f=some x->x.size<=400
 low:Below W0.heap.size W0 w
 ow:∀b,L.own b->W0.heap.size<=b
section
variable {W0:World} {fs:List (ByteArray×ByteArray)} {F:ByteArray->Option ByteArray} {L:aM} {fm:Value} {w:World} {bs:Nat} {st:St V}
theorem qR.files(h:qR W0 fs F L fm w):FM W0 F L fm w:=by
 refine⟨h.sz,?_,h.low,h.ow⟩;rcases h.mp with ⟨h1,h2⟩|⟨b,es,n,h1,h2,h3,h4,h5⟩
 . refine .inl ⟨h1,fun f=>?_⟩
   cases hf:F f with
   | none=>rfl
   | some x=>have:=(h.fl f x).2 hf;rw[h2] at this;simp at this
 . exact .inr ⟨b,es,n,h1,h3,h4,fs,h5,h.nd,h.fl⟩
theorem qR.below(h:qR W0 fs F L fm w){w':World}(hb:Below w.heap.size w w'):qR W0 fs F L fm w':=by
 refine⟨h.mp.imp id ?_,h.nd,h.fl,h.sz,aF h.low hb,h.ow⟩;rintro⟨b,es,n,h1,h2,h3,h4,h5⟩;exact⟨b,es,n,h1,h2,h3,below_heap hb (aB h4) h4,h5⟩
theorem qR.next(h:qR W0 fs F L fm w){st st':St V}{L':aM}{w':World}(hN:Next st st' L L' w w'):qR W0 fs F L' fm w':=by
 have hm:=h.files.next hN;refine⟨h.mp.imp id ?_,h.nd,h.fl,h.sz,hm.low,hm.ow⟩;rintro⟨b,es,n,h1,h2,h3,h4,h5⟩;exact⟨b,es,n,h1,h2,(hN.blk h4 h3).2,(hN.blk h4 h3).1,h5⟩
theorem bN.filesTo(h:bN st L none bs fm w)(F':ByteArray->Option ByteArray):bN {st with files:=F'} L none bs fm w:=by
 obtain⟨q,sm,bg,kv,arr,h⟩:=h;exact⟨q,sm,bg,kv,arr,⟨⟨h.s,h.bo,h.olt,h.sr,h.srb,h.sri,h.qm,h.sm,h.bg,h.kv,h.perm,h.nd,h.kl,h.ex,h.cell⟩,h.heap⟩⟩
theorem J7(h:bN st L none bs (.map none) w)(hF:qR W0 [] F L (.map none) w):bN st L none bs (.map (some w.heap.size)) ((w.setCell ⟨bs,0,none⟩ (.map (some w.heap.size))).alloc (.map #[] 0))/\qR W0 [] F L (.map (some w.heap.size)) ((w.setCell ⟨bs,0,none⟩ (.map (some w.heap.size))).alloc (.map #[] 0)):=by
 obtain⟨q,sm,bg,kv,arr,h⟩:=h;have hp:ENGp st L none bs (.map (some w.heap.size)) q sm bg kv arr (w.setCell ⟨bs,0,none⟩ (.map (some w.heap.size))):=by
  refine h.toENGp.sess (st':=st) (fun b hb=>aD hb _) (by simp) (aH h.s _) rfl rfl rfl (h.bg.keep fun b cs hb=>?_);rw[aD (fun e=>?_)]
  . exact hb
  . rw[e,h.s] at hb;injection hb with hb;injection hb with _ hb;exact absurd hb (by decide)
 have hz0:(w.setCell ⟨bs,0,none⟩ (.map (some w.heap.size))).heap.size=w.heap.size:=by simp
 have hA:=MapKept.heap_alloc (w.setCell ⟨bs,0,none⟩ (.map (some w.heap.size))) (.map #[] 0);rw[hz0] at hA;have hbl:=aG (w.setCell ⟨bs,0,none⟩ (.map (some w.heap.size))) (.map #[] 0);have hsz:=hF.low.size;have hfr:FR L.own w ((w.setCell ⟨bs,0,none⟩ (.map (some w.heap.size))).alloc (.map #[] 0)):=((FR.refl L.own w).setCell ⟨bs,0,none⟩ (.inl h.bo) _).alloc _;refine⟨⟨q,sm,bg,kv,arr,hp.below hbl,h.heap⟩,.inr ⟨w.heap.size,#[],0,rfl,hsz,fun e=>by have:=h.olt _ e;omega,hA.1,rfl⟩,by simp,hF.fl,hF.sz,⟨hfr.os.trans hF.low.os,hfr.tape.trans hF.low.tape,hfr.output.trans hF.low.output,Nat.le_trans hsz hfr.size,fun k hk=>?_⟩,hF.ow⟩;exact (hfr.block k (by omega) fun e=>by have:=hF.ow k e;omega).trans (hF.low.block k hk)
theorem J8{b n:Nat}{es:Array MapEntry}(h:bN st L none bs (.map (some b)) w)(hF:qR W0 fs F L (.map (some b)) w)(hb:w.heap[b]? = some (.map es n)){f t:ByteArray}(hnew:F f=none)(ht:t.size<=400) :
 bN st L none bs (.map (some b)) (Ses.setO w b (.map (es.push {key:=.string f,val:=.agg #[.string t],born:=n}) (n+1)))/\qR W0 (fs ++ [(f,t)]) (fun g=>if g=f then some t else F g) L (.map (some b)) (Ses.setO w b (.map (es.push {key:=.string f,val:=.agg #[.string t],born:=n}) (n+1))):=by
 obtain⟨b',es',n',h1,h2,h3,h4,h5⟩:∃b' es n,Value.map (some b) = .map (some b')/\W0.heap.size<=b'/\¬L.own b'/\w.heap[b']? = some (.map es n)/\es.toList.map (fun e=>(e.key,e.val))=fs.map (fun p=>(.string p.1,.agg #[.string p.2])):=by
  rcases hF.mp with ⟨h1,_⟩|h
  . cases h1
  . exact h
 injection h1 with h1;injection h1 with h1;subst h1;have hnk:f∉fs.map (·.1):=fun e=>by
  obtain⟨⟨a,x⟩,e1,rfl⟩:=List.mem_map.1 e;have:=(hF.fl a x).1 e1
  simp only at hnew;rw[hnew] at this;cases this
 rw[hb] at h4;injection h4 with h4;injection h4 with h4 _;subst h4;obtain⟨q,sm,bg,kv,arr,h⟩:=h;obtain⟨o,ho⟩:∃o,o=Obj.map (es.push {key:=.string f,val:=.agg #[.string t],born:=n}) (n+1):=⟨_,rfl⟩
 rw[<-ho];have hne:∀k,k≠b->(Ses.setO w b o).heap[k]? = w.heap[k]?:=fun k hk=>Ses.setO_ne w b k o hk;have hcs:∀(k:Nat) (cs:Array Value) (T:TypeId),w.heap[k]? = some (.cells cs T)->(Ses.setO w b o).heap[k]? = some (.cells cs T):=fun k cs T hk=>(hne k fun e=>by rw[e,hb] at hk;injection hk with hk;cases hk).trans hk;have hz:(Ses.setO w b o).heap.size=w.heap.size:=by simp[Ses.setO]
 have hown:∀k,L.own k->k≠b:=fun k hk e=>h3 (e ▸ hk);refine⟨⟨q,sm,bg,kv,arr,⟨⟨hcs _ _ _ h.s,h.bo,fun k hk=>by rw[hz];exact h.olt k hk,?_,fun g c hg=>⟨(h.srb g c hg).1,hcs _ _ _ (h.srb g c hg).2⟩,h.sri,h.qm,?_,h.bg.keep fun k cs=>hcs k cs _,h.kv.keep fun k cs=>hcs k cs _,h.perm,h.nd,h.kl,h.ex,fun j m hj=>?_⟩,h.heap⟩⟩,.inr ⟨b,_,_,rfl,h2,h3,by rw[Ses.setO_eq o hb,ho],?_⟩,?_,fun g x=>?_,fun g x hg=>?_,?_,hF.ow⟩
 . rcases h.sr with h1|⟨k,es',n',e1,e2,e3,e4⟩
   . exact .inl h1
   . exact .inr ⟨k,es',n',e1,e2,(hne k (hown k e2)).trans e3,e4⟩
 . rcases h.sm with h1|⟨k,es',n',e1,e2,e3,e4⟩
   . exact .inl h1
   . exact .inr ⟨k,es',n',e1,e2,(hne k (hown k e2)).trans e3,e4⟩
 . have hc:=h.cell j m hj
   obtain⟨x,vs,a,d⟩:=hc.ex;exact⟨⟨x,vs,hcs _ _ _ a,d.keepT fun k cs T _ _ hk=>hcs k cs T hk⟩,hc.own⟩
 . simp[h5]
 . rw[List.map_append,List.nodup_append]
   exact⟨hF.nd,by simp,fun x hx y hy=>by simp at hy;subst hy;intro e;exact hnk (e ▸ hx)⟩
 . rw[List.mem_append,hF.fl]
   by_cases hg:g=f
   . subst hg
     simp only[if_true,hnew,List.mem_singleton,Prod.mk.injEq,true_and];constructor
     . rintro (h1|h1)
       . cases h1
       . rw[h1]
     . intro h1;injection h1 with h1;exact .inr h1.symm
   . simp[hg]
 . by_cases hgf:g=f
   . subst hgf;simp at hg;subst hg;exact ht
   . simp[hgf] at hg;exact hF.sz g x hg
 . exact⟨hF.low.os,hF.low.tape,hF.low.output,by rw[hz];exact hF.low.size,fun k hk=>(hne k (by omega)).trans (hF.low.block k hk)⟩
theorem C2{b n:Nat}{es:Array MapEntry}{W:World}(f t:ByteArray)(h:W.heap[b]? = some (.map es n))(he:es.toList.map (fun e=>(e.key,e.val))=fs.map (fun p=>(.string p.1,.agg #[.string p.2])))(hk:f∉fs.map (·.1)) :
 (Instr.mapUpdate 56 (.map (some b)) (.string f) (.agg #[.string t])).run Tryz.prog W = .ok () (Ses.setO W b (.map (es.push {key:=.string f,val:=.agg #[.string t],born:=n}) (n+1))):=by
 have he':es.toList.map (fun e=>(e.key,e.val))=(fs.map fun p=>(p.1,Value.agg #[.string p.2])).map (fun p=>(.string p.1,p.2)):=by rw[he];simp
 have hf:=jP f es.toList _ 0 he' (by simpa[Function.comp_def] using hk);simp[Instr.mapUpdate,run_underlying Tryz.underlying56,MapKept.run_getObj_map h,MapKept.run_checkKey Tryz.underlying9 (uI f),MapKept.run_findKey Tryz.underlying9 hf,MapKept.run_setObj_map _ h,Result.andThen,Ses.setO]
end
end Go.Proofs.YthibodlojlkppaaGreatDoor

import Derived.Test.YthibodlojlkppaaGreatDoorZ07
import Derived.Lib.Builder
import Derived.Lib.AppendStr
import Derived.Lib.BufferWrite
set_option linter.all false
set_option maxRecDepth 100000
set_option maxHeartbeats 40000000
namespace Go.Proofs.YthibodlojlkppaaGreatDoor
variable [DecidableEq K] [LawfulBEq Lk]
section
variable {V:Type} {wp:K->Prog V} {lp:V} {F:eV} {a:K->V} {U:List K} {M Q:Nat}
def uS(st:St V)(k:K):Prop:=∀c,actB st c=true->rk k<rk c\/k.kind=7/\c.kind=7
structure Mm (F:eV) (a:K->V) (U:List K) (M Q:Nat) (st:St V):Prop where
 inv:Inv F a st
 psi:lD U st+s6 U st<=M
 kb:KB U st<cD
 us:US M Q st+1<j9
structure CG (F:eV) (a:K->V) (U:List K) (M Q:Nat) (st st':St V):Prop where
 inv:Inv F a st'
 mono:fL X0 st st'
 kb:KB U st'<=KB U st
theorem CG.pre{st st':St V}(h:CG F a U M Q st st')(p:Mm F a U M Q st)(hp:lD U st'<=lD U st)(hu:US M Q st'+1<j9):Mm F a U M Q st':=
 ⟨h.inv,by have:=p.psi;rw[h.mono.ina];omega,by have:=p.kb;have:=h.kb;omega,hu⟩
theorem CG.trans{st st1 st2:St V}(h:CG F a U M Q st st1)(g:CG F a U M Q st1 st2):CG F a U M Q st st2:=
 ⟨g.inv,h.mono.trans g.mono,Nat.le_trans g.kb h.kb⟩
theorem CG.refl{st:St V}(h:Inv F a st):CG F a U M Q st st:=⟨h,fL.refl _ _,Nat.le_refl _⟩
theorem uS.mono{st st':St V}{k:K}(h:uS st k)(m:fL X0 st st'):uS st' k:=fun c hc=>h c (by rw[<-m.actB c];exact hc)
def xP(wp:K->Prog V)(F:eV)(a:K->V)(U:List K)(M Q n:Nat)(E:eF V):Prop:=
 ∀k st,Mm F a U M Q st->k∈U->(∃m,st.sl k=some m)->uS st k->s6 U st<n->
  ∃out st',E k st=some (out,st')/\CG F a U M Q st st'/\US M Q st'<=US M Q st+1/\
   match out with
   | .ok _=>lD U st'<=lD U st/\qH st' k
   | .error c=>lD U st'<=lD U st+s6 U st/\k.kind=7/\c.kind=7/\actB st c=true/\Reach F a wp k c
theorem Inv.valNow{st:St V}(h:Inv F a st){k:K}(hk:k∈st.kept):st.val k=some (a k):=by
 obtain⟨m,x,e,hx⟩:=(h.kp k).1 hk;have:=(h.mem k m e).v2 x hx
 subst this;simp[St.val,e,hx]
theorem lE{st st':St V}(h:st'.kept=st.kept):Bm U st'=Bm U st:=by
 unfold Bm xO;rw[h]
theorem JM{st:St V}(h:Inv F a st)(k:K):lD U (st.find k)=lD U st/\KB U (st.find k)=KB U st/\US M Q (st.find k)=US M Q st:=by
 obtain⟨_,hm,_,hb,hk,hu⟩:=h.find k;refine⟨?_,?_,?_⟩
 . unfold lD;rw[hb,lE hk]
 . unfold KB;rw[hk,lE hk]
 . unfold US;rw[hu,hb]
theorem EC{st:St V}(h:Inv F a st)(f:ByteArray):lD U (st.source f)=lD U st/\KB U (st.source f)=KB U st/\US M Q (st.source f)=US M Q st:=by
 obtain⟨_,hm,hb,hk,hu⟩:=h.source f;refine⟨?_,?_,?_⟩
 . unfold lD;rw[hb,lE hk]
 . unfold KB;rw[hk,lE hk]
 . unfold US;rw[hu,hb]
def Lv(wp:K->Prog V)(F:eV)(a:K->V)(U:List K)(k:K)(st st':St V)(c:K):Prop:=
 lD U st'<=lD U st+s6 U st/\k.kind=7/\c.kind=7/\actB st c=true/\∃j,Lk.slot j∈qs F a (wp k)/\Reach F a wp j c
def jS(st:St V)(k:K):Prop:=∀c,actB st c=true->c=k\/rk k<rk c\/k.kind=7/\c.kind=7
theorem jS.mono{st st':St V}{k:K}(h:jS st k)(m:fL X0 st st'):jS st' k:=fun c hc=>h c (by rw[<-m.actB c];exact hc)
theorem jS.nested{st:St V}{k j:K}(h:jS st k)(hj:rk j<rk k\/(k.kind=7/\j.kind=7)):uS st j:=fun c hc=>by
 rcases h c hc with rfl|h1|⟨h1,h2⟩
 . rcases hj with h2|⟨h2,h3⟩
   . exact .inl h2
   . exact .inr ⟨h3,h2⟩
 . rcases hj with h2|⟨h2,h3⟩
   . exact .inl (by omega)
   . rw[Gx.2 h2] at h1
     exact .inl (by rw[Gx.2 h3];exact h1)
 . rcases hj with h3|⟨h3,h4⟩
   . rw[Gx.2 h1] at h3
     exact .inl (by rw[Gx.2 h2];exact h3)
   . exact .inr ⟨h4,h2⟩
theorem jS.cyc{st:St V}{k j c:K}(h:jS st k)(hj:rk j<rk k\/(k.kind=7/\j.kind=7))(hj7:j.kind=7)(hc7:c.kind=7)(hc:actB st c=true):k.kind=7:=by
 rcases hj with h1|h1
 . rcases h c hc with rfl|h2|h2
   . exact hc7
   . rw[Gx.2 hc7] at h2;rw[Gx.2 hj7] at h1;omega
   . exact h2.1
 . exact h1.1
theorem zV{n:Nat}{E:eF V}(hE:xP wp F a U M Q n E){k:K}(hk:k∈U)(hS:Spec wp lp F a)(hU:Lu wp F a U Q) :
 ∀(p:Prog V) (lk:List Lk) (st:St V),Mm F a U M Q st->US M Q st+(qs F a p).length+1<j9->bV F a p=some (a k)->(∀l,l∈qs F a p->l∈qs F a (wp k))->Cd lk (qs F a p)=Cd [] (qs F a (wp k))->
  (∀j,Lk.slot j∈lk->j∈st.kept)->jS st k->s6 U st<n->
  ∃out st',run E (k.kind != 7) p lk st=some (out,st')/\CG F a U M Q st st'/\US M Q st'<=US M Q st+(qs F a p).length/\
   match out with
   | .ok (v,_)=>lD U st'<=lD U st/\v=a k
   | .error c=>Lv wp F a U k st st' c
 | ⟨.inl v,_⟩,lk,st,hP,_,he,_,hd,hl,_,_=>by
  simp only[bV,Option.some.injEq] at he;exact⟨.ok (v,lk),st,rfl,CG.refl hP.inv,Nat.le_add_right _ _,Nat.le_refl _,he⟩
 | ⟨.inr (.inl _),_⟩,lk,st,_,_,he,_,_,_,_,_=>by simp[bV] at he
 | ⟨.inr (.inr (.inl f)),c⟩,lk,st,hP,hus,he,hq,hd,hl,hR,hI=>by
  have hlen:lk.length<cD:=by
   have h1:=(sT (lk ++ [.src f]) (qs F a (c (F f)))).1;have h2:=(sT [] (qs F a (wp k))).2;have h3:=hU.len k hk;have h4:=hU.big;simp only[qs,Cd] at hd;rw[hd] at h1;simp at h1 h2;omega
  obtain⟨i1,m1,b1,k1,u1⟩:=hP.inv.source f;obtain⟨p1,p2,p3⟩:=EC (U:=U) (M:=M) (Q:=Q) hP.inv f;have hPo:CG F a U M Q st (st.source f):=⟨i1,m1,Nat.le_of_eq p2⟩
  have hF:st.files f=F f:=by rw[hP.inv.files]
  have hql:(qs F a (Prog.look f c)).length=(qs F a (c (F f))).length+1:=by simp[qs]
  rw[hql] at hus;obtain⟨out,st',e,hpo,hu,hout⟩:=zV hE hk hS hU (c (F f)) (lk ++ [.src f]) (st.source f) (hPo.pre hP (Nat.le_of_eq p1) (by rw[p3];exact hP.us)) (by rw[p3];omega) (by simpa[bV] using he) (fun l h=>hq l (by simp[qs,h])) (by simpa[qs,Cd] using hd) (fun j h=>by
   rcases List.mem_append.1 h with h1|h1
   . rw[k1];exact hl j h1
   . simp at h1) (hR.mono m1) (by rw[m1.ina];exact hI)
  have hfs:f.size<=cD:=hU.ssz k hk f (hq _ (by simp[qs]));refine⟨out,st',by simp only[run,hlen,hfs,and_self,if_true,hF];exact e,hPo.trans hpo,by rw[hql];omega,?_⟩;cases out with
  | ok a=>exact⟨Nat.le_trans hout.1 (Nat.le_of_eq p1),hout.2⟩
  | error c'=>
   obtain⟨a1,a2,a3,a4,a5⟩:=hout;exact⟨by rw[m1.ina] at a1;omega,a2,a3,by rw[<-m1.actB];exact a4,a5⟩
 | ⟨.inr (.inr (.inr j)),c⟩,lk,st,hP,hus,he,hq,hd,hl,hR,hI=>by
  have hjq:Lk.slot j∈qs F a (wp k):=hq _ (by simp[qs]);have hsz:¬(cD<j.file.size\/cD<j.name.size):=by
   have:=hU.sz j (hU.clo k hk j hjq)
   omega
  have hql:(qs F a (Prog.get j c)).length=(qs F a (c (a j))).length+1:=by simp[qs]
  rw[hql] at hus;by_cases hmem:Lk.slot j∈lk
  . have hkj:=hl j hmem
    have hfind:st.find j=st:=by
     obtain⟨m,x,hm,_⟩:=(hP.inv.kp j).1 hkj;simp[St.find,hm]
    have hv:=hP.inv.valNow hkj;obtain⟨out,st',e,hpo,hu,hout⟩:=zV hE hk hS hU (c (a j)) lk st hP (by omega) (by simpa[bV] using he) (fun l h=>hq l (by simp[qs,h])) (by simpa[qs,Cd,hmem] using hd) hl hR hI;exact⟨out,st',by simp only[run,cE,hsz,if_false,hmem,if_true,hfind,hv,Option.map_some];exact e,hpo,by rw[hql];omega,hout⟩
  . have hlen:lk.length<cD:=by
     have h1:=(sT (lk ++ [.slot j]) (qs F a (c (a j)))).1;have h2:=(sT [] (qs F a (wp k))).2;have h3:=hU.len k hk;have h4:=hU.big;simp only[qs,Cd,hmem,if_false] at hd;rw[hd] at h1;simp at h1 h2;omega
    obtain⟨i1,m1,s1,b1,k1,u1⟩:=hP.inv.find j;obtain⟨p1,p2,p3⟩:=JM (U:=U) (M:=M) (Q:=Q) hP.inv j;have hPo:CG F a U M Q st (st.find j):=⟨i1,m1,Nat.le_of_eq p2⟩
    have hrj:=hS.rank k j hjq;obtain⟨out,st2,e,hpo,hu,hout⟩:=hE j (st.find j) (hPo.pre hP (Nat.le_of_eq p1) (by rw[p3];exact hP.us)) (hU.clo k hk j hjq) s1 ((hR.mono m1).nested hrj) (by rw[m1.ina];exact hI);rw[p3] at hu;have hPo2:=hPo.trans hpo;cases out with
    | error c'=>
     obtain⟨a1,a2,a3,a4,a5⟩:=hout;have hk7:=(hR.mono m1).cyc hrj a2 a3 a4;exact⟨.cyc c',st2,by simp[run,cE,hsz,hmem,e,hk7,a2],hPo2,by rw[hql];omega,by rw[m1.ina] at a1;omega,hk7,a3,by rw[<-m1.actB];exact a4,j,hjq,a5⟩
    | ok a'=>
     obtain⟨a1,_,_,_,_,hkj,_⟩:=hout;have hv:=hpo.inv.valNow hkj;obtain⟨out,st',e',hpo',hu',hout⟩:=zV hE hk hS hU (c (a j)) (lk ++ [.slot j]) st2 (hPo2.pre hP (Nat.le_trans a1 (Nat.le_of_eq p1)) (by omega)) (by omega) (by simpa[bV] using he) (fun l h=>hq l (by simp[qs,h])) (by simpa[qs,Cd,hmem] using hd) (fun i h=>by
      rcases List.mem_append.1 h with h1|h1
      . exact hPo2.mono.kept i (hl i h1)
      . simp at h1;subst h1
        exact hkj) (hR.mono hPo2.mono) (by rw[hPo2.mono.ina];exact hI)
     refine⟨out,st',by simp only[run,cE,hsz,hmem,if_false,e,hlen,if_true,hv,Option.map_some];exact e',hPo2.trans hpo',by rw[hql];omega,?_⟩;cases out with
     | ok b=>exact⟨Nat.le_trans hout.1 (Nat.le_trans a1 (Nat.le_of_eq p1)),hout.2⟩
     | error c'=>
      obtain⟨b1,b2,b3,b4,b5⟩:=hout;exact⟨by rw[hPo2.mono.ina] at b1;omega,b2,b3,by rw[<-hPo2.mono.actB];exact b4,b5⟩
end
section
variable {V:Type} {wp:K->Prog V} {lp:V} {F:eV} {a:K->V} {U:List K} {M Q:Nat}
structure oG (F:eV) (a:K->V) (U:List K) (k:K) (st st':St V):Prop where
 inv:Inv F a st'
 mono:fL (· = k) st st'
 kb:KB U st'<=KB U st
theorem oG.trans{k:K}{st st1 st2:St V}(h:oG F a U k st st1)(g:oG F a U k st1 st2):oG F a U k st st2:=
 ⟨g.inv,h.mono.trans g.mono,Nat.le_trans g.kb h.kb⟩
theorem kQ(st:St V):lD U st=st.began.length+(1+U.length)*Bm U st:=rfl
def pI(st:St V)(k:K)(m:bU V)(v:V):St V:=
 { st.put k {gK st m v with used:=st.uses+1} with uses:=st.uses+1,kept:=st.kept ++ [k]}
theorem xQ{st:St V}{k:K}{m:bU V}(hm:st.sl k=some m)(hl:st.kept.length<cD)(hk:k∉st.kept)(hu:st.uses+1<j9)(v:V):answer st k v=some (pI st k m v):=by
 have hw:(st.uses+1) % j9=st.uses+1:=Nat.mod_eq_of_lt hu;simp only[answer,hm,hl,hk,not_false_eq_true,and_self,if_true,Option.some.injEq];simp[St.use,St.put,pI,gK,hk,hw];funext j;split <;> rfl
theorem GW{st:St V}(h:Inv F a st){k:K}(hk:k∈U){m:bU V}(hm:st.sl k=some m){v:V}(hv:v=a k)(hnk:k∉st.kept) :
 oG F a U k st (pI st k m v)/\qH (pI st k m v) k/\Bm U (pI st k m v)+1<=Bm U st/\actB (pI st k m v) k=actB st k:=by
 have hsl:∀j,(pI st k m v).sl j=if j=k then some {gK st m v with used:=st.uses+1} else st.sl j:=fun _=>rfl;have hke:(pI st k m v).kept=st.kept ++ [k]:=rfl;have hkp:∀j,j∈(pI st k m v).kept↔j∈st.kept\/j=k:=fun j=>by rw[hke];simp
 have hund:Bm U (pI st k m v)+1<=Bm U st:=by
  refine qD U (fun j _ hj=>?_) k hk ?_ ?_
  . simp[xO,hke] at hj;simp[xO,hj.1]
  . simp[xO,hke]
  . simp[xO,hnk]
 refine⟨⟨⟨h.files,fun j n hj=>?_,fun j=>?_,?_⟩,⟨rfl,rfl,fun j n hj=>?_,fun j hn hj n hn'=>?_,fun j hj=>(hkp j).2 (.inl hj)⟩,?_⟩,⟨_,by rw[hsl,if_pos rfl],rfl,rfl,(hkp k).2 (.inr rfl),fun j n hj hn=>?_⟩,hund,?_⟩
 . rw[hsl] at hj
   by_cases hjk:j=k
   . rw[if_pos hjk] at hj
     cases hj;subst hjk;exact⟨fun x=>by simp[gK] at x,fun x hx=>by simp[gK] at hx;exact hx.symm,fun x hx=>by simp[gK] at hx;rw[<-hx,hv],Nat.le_refl _⟩
   . rw[if_neg hjk] at hj
     exact (h.mem j n hj).up (Nat.le_add_right _ _)
 . rw[hkp,hsl]
   by_cases hjk:j=k
   . rw[if_pos hjk]
     constructor
     . intro _;exact⟨_,v,rfl,rfl⟩
     . intro _;exact .inr hjk
   . rw[if_neg hjk,h.kp j]
     constructor
     . rintro (x|x)
       . exact x
       . exact absurd x hjk
     . exact .inl
 . rw[hke,List.nodup_append]
   exact⟨h.nd,by simp,fun x hx y hy=>by simp at hy;subst hy;intro e;exact hnk (e ▸ hx)⟩
 . rw[hsl]
   by_cases hjk:j=k
   . exact⟨_,by rw[if_pos hjk],fun x=>absurd hjk x⟩
   . exact⟨n,by rw[if_neg hjk,hj],fun _=>⟨rfl,fun _=>rfl⟩⟩
 . rw[hsl,if_neg hn,hj] at hn'
   cases hn'
 . unfold KB
   rw[hke];simp only[List.length_append,List.length_cons,List.length_nil];omega
 . rw[hsl,if_neg hj] at hn
   have:=(h.mem j n hn).us
   show n.used<st.uses+1;omega
 . unfold actB
   rw[hsl,if_pos rfl,hm];rfl
end
section
variable {V:Type} {wp:K->Prog V} {lp:V} {F:eV} {a:K->V} {U:List K} {M Q:Nat}
structure iV (k:K) (m:bU V) (st:St V):Prop where
 sl:st.sl k=some m
 act:m.act=true
theorem iV.actB{k:K}{m:bU V}{st:St V}(h:iV k m st):Go.Proofs.YthibodlojlkppaaGreatDoor.actB st k=true:=by
 unfold Go.Proofs.YthibodlojlkppaaGreatDoor.actB;rw[h.sl];exact h.act
theorem iV.next{k:K}{m:bU V}{st st':St V}(h:iV k m st)(g:fL X0 st st'):iV k m st':=⟨g.act h.sl h.act,h.act⟩
theorem iV.kept{k:K}{m:bU V}{st st':St V}(h:iV k m st)(h':iV k m st')(hi:Inv F a st)(hi':Inv F a st'):k∈st'.kept->k∈st.kept:=fun hk=>by
 obtain⟨m',x,e1,e2⟩:=(hi'.kp k).1 hk;rw[h'.sl] at e1;cases e1;exact (hi.kp k).2 ⟨m,x,h.sl,e2⟩
theorem iW(st:St V):US M Q st=st.uses+Q*(M-st.began.length):=rfl
theorem CH{n:Nat}{E:eF V}(hE:xP wp F a U M Q n E){k:K}(hk:k∈U)(hS:Spec wp lp F a)(hU:Lu wp F a U Q)(hM:M<=cD){m:bU V}{st:St V}(hi:Inv F a st)(hpsi:lD U st+s6 U st+1<=M)(hkb:KB U st<cD)(hus:US M Q st+1<j9)(hm:iV k m st)(hd:k∉st.kept)(hR:jS st k)(hI:s6 U st<n) :
 ∃out st',workOut wp E k st=some (out,st')/\oG F a U k st st'/\US M Q st'<=US M Q st/\
  match out with
  | .ok _=>lD U st'<=lD U st/\qH st' k/\Go.Proofs.YthibodlojlkppaaGreatDoor.actB st' k=true
  | .error c=>iV k m st'/\k∉st'.kept/\US M Q st'+1<=US M Q st/\lD U st'<=lD U st+s6 U st+1/\k.kind=7/\c.kind=7/\actB st c=true/\∃j,Lk.slot j∈qs F a (wp k)/\Reach F a wp j c:=by
 have hi1:Inv F a {st with began:=st.began ++ [k]}:=⟨hi.files,hi.mem,hi.kp,hi.nd⟩
 have hpsi1:lD U {st with began:=st.began ++ [k]}=lD U st+1:=by
  simp only[kQ,List.length_append,List.length_cons,List.length_nil];show st.began.length+(0+1)+(1+U.length)*Bm U st=_;omega
 have hbl:st.began.length<M:=by rw[kQ] at hpsi;omega
 have hus1:US M Q {st with began:=st.began ++ [k]}+Q=US M Q st:=by
  rw[iW,iW];simp only[List.length_append,List.length_cons,List.length_nil];obtain⟨d,hd⟩:∃d,M-st.began.length=d+1:=⟨M-st.began.length-1,by omega⟩
  have:M-(st.began.length+(0+1))=d:=by omega
  rw[hd,this,Nat.mul_add];omega
 have hql:=hU.len k hk;have hP1:Mm F a U M Q {st with began:=st.began ++ [k]}:=⟨hi1,by rw[hpsi1];show lD U st+1+s6 U st<=M;omega,hkb,by omega⟩
 obtain⟨out,st2,e,hpo,hu,hout⟩:=zV hE hk hS hU (wp k) [] {st with began:=st.began ++ [k]} hP1 (by omega) (hS.fix k) (fun _ h=>h) rfl (fun _ x=>by simp at x) hR hI;have hm2:iV k m st2:=iV.next (st:={st with began:=st.began ++ [k]}) ⟨hm.sl,hm.act⟩ hpo.mono;have hmono:fL X0 st st2:=⟨hpo.mono.rev,hpo.mono.files,hpo.mono.slot,hpo.mono.new,hpo.mono.kept⟩
 have hnk2:k∉st2.kept:=fun h=>hd (hm.kept hm2 hi hpo.inv h);have hkl:st2.kept.length<cD:=by
  have:=hpo.kb
  have h3:KB U {st with began:=st.began ++ [k]}=KB U st:=rfl;rw[h3] at this;unfold KB at this hkb;omega
 cases out with
 | error c=>
  obtain⟨a1,a2,a3,a4,a5⟩:=hout;refine⟨.cyc c,st2,by simp[workOut,Nat.lt_of_lt_of_le hbl hM,e],⟨hpo.inv,hmono.weak fun _ x=>x.elim,hpo.kb⟩,by omega,hm2,hnk2,by omega,?_,a2,a3,a4,a5⟩;rw[hpsi1] at a1;have:s6 U {st with began:=st.began ++ [k]}=s6 U st:=rfl
  omega
 | ok r=>
  obtain⟨v,lk⟩:=r;obtain⟨a1,rfl⟩:=hout;have hu2:st2.uses+1<j9:=by
   have:st2.uses<=US M Q st2:=by rw[iW];omega
   omega
  obtain⟨b1,b2,b3,b4⟩:=GW hpo.inv hk hm2.sl (v:=a k) rfl hnk2;have hus3:US M Q (pI st2 k m (a k))=US M Q st2+1:=by
   rw[iW,iW];show st2.uses+1+Q*(M-st2.began.length)=_;omega
  refine⟨.ok (),_,by simp[workOut,Nat.lt_of_lt_of_le hbl hM,e,xQ hm2.sl hkl hnk2 hu2],⟨b1.inv,(hmono.weak fun _ x=>x.elim).trans b1.mono,Nat.le_trans b1.kb hpo.kb⟩,by omega,?_,b2,b4.trans hm2.actB⟩;have h4:lD U st2<=lD U st+1:=by rw[<-hpsi1];exact a1
  rw[kQ] at h4 ⊢;rw[kQ] at h4 ⊢;have h7:(1+U.length)*(Bm U (pI st2 k m (a k))+1)<=(1+U.length)*Bm U st2:=Nat.mul_le_mul_left _ b3;rw[Nat.mul_add] at h7;show st2.began.length+_<=_;omega
theorem GX{n:Nat}{E:eF V}(hE:xP wp F a U M Q n E){k:K}(hk:k∈U)(hS:Spec wp lp F a)(hU:Lu wp F a U Q)(hM:M<=cD){m:bU V}{st:St V}(hi:Inv F a st)(hpsi:lD U st+s6 U st+1<=M)(hkb:KB U st<cD)(hus:US M Q st+1<j9)(hm:iV k m st)(hR:jS st k)(hI:s6 U st<n) :
 ∃out st',inner wp E k st=some (out,st')/\oG F a U k st st'/\US M Q st'<=US M Q st+1/\
  match out with
  | .ok _=>lD U st'<=lD U st/\qH st' k/\Go.Proofs.YthibodlojlkppaaGreatDoor.actB st' k=true
  | .error c=>iV k m st'/\k∉st'.kept/\US M Q st'+1<=US M Q st/\lD U st'<=lD U st+s6 U st+1/\k.kind=7/\c.kind=7/\actB st c=true/\∃j,Lk.slot j∈qs F a (wp k)/\Reach F a wp j c:=by
 have hmo:=hi.mem k m hm.sl;have key:k∉st.kept->inner wp E k st=workOut wp E k st->∃out st',inner wp E k st=some (out,st')/\oG F a U k st st'/\US M Q st'<=US M Q st+1/\
  match out with
  | .ok _=>lD U st'<=lD U st/\qH st' k/\Go.Proofs.YthibodlojlkppaaGreatDoor.actB st' k=true
  | .error c=>iV k m st'/\k∉st'.kept/\US M Q st'+1<=US M Q st/\lD U st'<=lD U st+s6 U st+1/\k.kind=7/\c.kind=7/\actB st c=true/\∃j,Lk.slot j∈qs F a (wp k)/\Reach F a wp j c:=by
  intro hd he;obtain⟨out,st',e,h1,h2,h3⟩:=CH hE hk hS hU hM hi hpsi hkb hus hm hd hR hI;exact⟨out,st',he.trans e,h1,by omega,h3⟩
 cases hver:m.ver with
 | none=>
  refine key (fun hk'=>?_) (by simp[inner,hm.sl,hver]);obtain⟨m',x,e1,e2⟩:=(hi.kp k).1 hk';rw[hm.sl] at e1;cases e1;rw[hmo.v0 hver] at e2;cases e2
 | some v=>
  have hv:=hmo.v1 v hver;subst hv;by_cases hk':k∈st.kept
  . have hu:st.uses+1<j9:=by
     have:st.uses<=US M Q st:=by rw[iW];omega
     omega
    obtain⟨b1,b2,b3,b4,b5,b6,b7⟩:=hi.use hk' hu;refine⟨.ok (),st.use k,by simp[inner,hm.sl,hver,hk'],⟨b1,b2,?_⟩,?_,?_,b7,?_⟩
    . unfold KB;rw[b4,lE b4];exact Nat.le_refl _
    . rw[iW,iW,b5,b3];omega
    . rw[kQ,kQ,b3,lE b4];exact Nat.le_refl _
    . unfold Go.Proofs.YthibodlojlkppaaGreatDoor.actB;rw[b6 m hm.sl];exact hm.act
  . exact key hk' (by simp[inner,hm.sl,hver,hk'])
theorem uT{st st':St V}{k:K}{m0 m:bU V}(h0:st.sl k=some m0)(ha0:m0.act=false)(h:oG F a U k st st')(hm:st'.sl k=some m):CG F a U M Q st (st'.leave k)/\lD U (st'.leave k)=lD U st'/\US M Q (st'.leave k)=US M Q st'/\(qH st' k->qH (st'.leave k) k):=by
 have e:st'.leave k=st'.put k {m with act:=false}:=by simp[St.leave,hm]
 have hmo:=h.inv.mem k m hm;have hi:Inv F a (st'.put k {m with act:=false}):=h.inv.put hm ⟨hmo.v0,hmo.v1,hmo.v2,hmo.us⟩ rfl;rw[e];refine⟨⟨hi,⟨h.mono.rev,h.mono.files,fun j n hj=>?_,fun j _ hj n hn=>?_,h.mono.kept⟩,h.kb⟩,rfl,rfl,?_⟩
 . by_cases hjk:j=k
   . subst hjk
     rw[h0] at hj;cases hj;exact⟨_,by simp[St.put];rfl,fun _=>⟨ha0.symm,fun x=>by rw[ha0] at x;cases x⟩⟩
   . obtain⟨n',e1,f1⟩:=h.mono.slot j n hj
     exact⟨n',by simp[St.put,hjk,e1],fun _=>f1 hjk⟩
 . by_cases hjk:j=k
   . subst hjk;rw[h0] at hj;cases hj
   . simp[St.put,hjk] at hn
     exact h.mono.new j hjk hj n hn
 . rintro⟨m1,e1,e2,e3,e4,e5⟩
   rw[hm] at e1;cases e1;refine⟨{m with act:=false},by simp[St.put],e2,e3,e4,fun j n hj hn=>?_⟩;simp[St.put,hj] at hn;exact e5 j n hj hn
theorem ED{n:Nat}{E:eF V}(hE:xP wp F a U M Q n E)(hS:Spec wp lp F a)(hU:Lu wp F a U Q)(hM:M<=cD):xP wp F a U M Q (n+1) (dK wp lp E):=by
 intro k st hP hk hex hR hI;obtain⟨m,hm⟩:=hex;cases ha:m.act with
 | true=>
  have hact:actB st k=true:=by unfold actB;rw[hm];exact ha
  have h7:k.kind=7:=by
   rcases hR k hact with h1|h1
   . omega
   . exact h1.1
  exact⟨.cyc k,st,by simp[dK,hm,ha,h7],CG.refl hP.inv,by omega,by omega,h7,h7,hact,.here k⟩
 | false=>
  have hact:actB st k=false:=by unfold actB;rw[hm];exact ha
  have hmo:=hP.inv.mem k m hm;have hi1:Inv F a (st.put k {m with act:=true}):=hP.inv.put hm ⟨hmo.v0,hmo.v1,hmo.v2,hmo.us⟩ rfl;have hm1:iV k {m with act:=true} (st.put k {m with act:=true}):=⟨by simp[St.put],rfl⟩
  have hmono1:fL (· = k) st (st.put k {m with act:=true}):=fL.put;have hIna:s6 U (st.put k {m with act:=true})+1<=s6 U st:=by
   refine qD U (fun j _ hj=>?_) k hk (by simp[actB,St.put]) (by simp[hact]);by_cases hjk:j=k
   . subst hjk;simp[hact]
   . rw[uR hjk] at hj;exact hj
  have hPsi:lD U (st.put k {m with act:=true})=lD U st:=rfl;have hUS:US M Q (st.put k {m with act:=true})=US M Q st:=rfl;have hRI:jS (st.put k {m with act:=true}) k:=fun c hc=>by
   by_cases hck:c=k
   . exact .inl hck
   . rw[uR hck] at hc;exact .inr (hR c hc)
  obtain⟨out,st2,e,hpo,hu,hout⟩:=GX (st:=st.put k {m with act:=true}) hE hk hS hU hM hi1 (by rw[hPsi];have:=hP.psi;omega) hP.kb hP.us hm1 hRI (by omega);have hpo1:oG F a U k st st2:=⟨hpo.inv,hmono1.trans hpo.mono,hpo.kb⟩
  rw[hUS] at hu;cases out with
  | ok r=>
   obtain⟨a1,a3,a4⟩:=hout;obtain⟨m2,hm2,_⟩:=id a3;obtain⟨b1,b2,b3,b4⟩:=uT (M:=M) (Q:=Q) hm ha hpo1 hm2;exact⟨.ok (),st2.leave k,by simp[dK,hm,ha,e],b1,by rw[b3];omega,by rw[b2];omega,b4 a3⟩
  | error c=>
   obtain⟨c0,c8,cu,c1,c2,c3,c4,j,c5,c6⟩:=hout;rw[hUS] at cu;by_cases hck:c=k
   . subst hck
     have hl:st2.kept.length<cD:=by have h1:=hpo1.kb;have h2:=hP.kb;unfold KB at h1 h2;omega
     have hu2:st2.uses+1<j9:=by
      have h1:st2.uses<=US M Q st2:=by rw[iW];omega
      have h2:=hP.us;omega
     obtain⟨b1,b2,b3,b4⟩:=GW hpo1.inv hk c0.sl (v:=lp) (hS.cyc c j c5 c6).symm c8;have hpo2:=hpo1.trans b1;obtain⟨d1,d2,d3,d4⟩:=uT (M:=M) (Q:=Q) (m:={gK st2 {m with act:=true} lp with used:=st2.uses+1}) hm ha hpo2 (by simp[pI,St.put]);refine⟨.ok (),_,by simp[dK,hm,ha,e,xQ c0.sl hl c8 hu2],d1,?_,?_,d4 b2⟩
     . rw[d3,iW,iW]
       show st2.uses+1+Q*(M-st2.began.length)<=_;rw[iW,iW] at cu;omega
     rw[d2];have h7:(1+U.length)*(Bm U (pI st2 c {m with act:=true} lp)+1)<=(1+U.length)*Bm U st2:=Nat.mul_le_mul_left _ b3;have h8:s6 U st<=U.length:=List.countP_le_length;rw[Nat.mul_add] at h7;rw[kQ] at c1 ⊢;rw[kQ];rw[hPsi,kQ] at c1;show st2.began.length+_<=_;omega
   . obtain⟨b1,b2,b3,b4⟩:=uT (M:=M) (Q:=Q) hm ha hpo1 c0.sl
     refine⟨.cyc c,st2.leave k,by simp[dK,hm,ha,e,hck,c2],b1,by rw[b3];omega,by rw[b2];omega,c2,c3,?_,.step c5 c6⟩;rw[uR hck] at c4;exact c4
theorem GY(hS:Spec wp lp F a)(hU:Lu wp F a U Q)(hM:M<=cD):∀n,xP wp F a U M Q n (pC wp lp n)
 | 0=>fun _ _ _ _ _ _ h=>by omega
 | n+1=>ED (GY hS hU hM n) hS hU hM
end
end Go.Proofs.YthibodlojlkppaaGreatDoor
namespace Go.Proofs.YthibodlojlkppaaGreatDoor
open Go.RowKit
variable [DecidableEq K] [LawfulBEq Lk]
def dP(F:eV)(f:ByteArray):List Tok:=aN ((F f).getD bA)
def aO(F:eV)(f:ByteArray):List cL×Option Nat:=bY (dP F f)
def uU(F:eV)(f:ByteArray):List ByteArray:=iQ (aO F f).1
def kJ(F:eV)(nm:ByteArray):List ByteArray->ByteArray->ByteArray
 | [],found=>found
 | f::fs,found=>if gL (uU F f) nm then kJ F nm fs (if bB found none_ then f else rY) else kJ F nm fs found
def findF(F:eV)(f nm:ByteArray):ByteArray:=
 match aU nm (aO F f).1 with
 | []=>kJ F nm (bS (aO F f).1 []) none_
 | [_]=>f
 | _=>rY
def pJ(F:eV)(f nm:ByteArray):ByteArray:=
 if eM (findF F f nm) then match aU nm (aO F (findF F f nm)).1 with | [i]=>i.typ|_=>bA else bA
def qI(F:eV)(f:ByteArray):List ByteArray->(ByteArray->ByteArray)->ByteArray->ByteArray
 | [],M=>M
 | n::ns,M=>qI F f ns fun x=>if x=n then pJ F f n else M x
def bK(F:eV)(f nm:ByteArray):ByteArray:=
 match aU nm (aO F f).1 with
 | [i]=>match i.ex with
  | none=>eX
  | some e=>if bB (fE (qI F f (aL e []) fun _=>bA) e) i.typ then i.typ else eX
 | _=>none_
def cS(F:eV)(v:ByteArray->ByteArray->ByteArray)(f:ByteArray):List ByteArray->ByteArray->(ByteArray->Int)->ByteArray×(ByteArray->Int)
 | [],fault,M=>(fault,M)
 | n::ns,fault,M=>cS F v f ns (fT fault (v (findF F f n) n)) fun x=>if x=n then eN (v (findF F f n) n) else M x
def dD(F:eV)(f nm:ByteArray):Option Ex:=
 if bB (bK F f nm) none_||bB (bK F f nm) eX then none else
  match aU nm (aO F f).1 with
  | []=>none
  | i::_=>i.ex
def gY(F:eV)(v:ByteArray->ByteArray->ByteArray)(f nm:ByteArray):ByteArray:=
 match dD F f nm with
 | none=>bK F f nm
 | some e=>gF e (bK F f nm) (cS F v f (aL e []) bA fun _=>0).1 (cS F v f (aL e []) bA fun _=>0).2
def lZ(F:eV)(v:ByteArray->ByteArray->ByteArray)(f:ByteArray)(its:List cL)(i:cL):ByteArray:=
 if i.kind==0 then (if (F i.name).isSome then bA else MD)
 else if 1<(aU i.name its).length then F0
 else if bB (bK F f i.name) eX then KH else fT bA (v f i.name)
def rD(toks:List Tok)(num:Nat)(word out:ByteArray):ByteArray:=
 if bB word bA then out else match toks[num]? with|none=>out|some t=>tL out t word
def kR(F:eV)(v:ByteArray->ByteArray->ByteArray)(f:ByteArray)(toks:List Tok)(its:List cL):List cL->ByteArray->ByteArray
 | [],out=>out
 | i::r,out=>kR F v f toks its r (rD toks i.num (lZ F v f its i) out)
def pK(F:eV)(v:ByteArray->ByteArray->ByteArray)(f:ByteArray):ByteArray:=
 match (aO F f).2 with
 | none=>kR F v f (dP F f) (aO F f).1 (aO F f).1 bA
 | some b=>rD (dP F f) b F7 (kR F v f (dP F f) (aO F f).1 (aO F f).1 bA)
def bQ(F:eV)(v:ByteArray->ByteArray->ByteArray)(k:K):V:=
 if k.kind=1 then .s (if (F k.file).isSome then tJ else Ml)
 else if k.kind=2 then .t (dP F k.file)
 else if k.kind=3 then .r (aO F k.file).1 (aO F k.file).2
 else if k.kind=4 then .x (uU F k.file)
 else if k.kind=5 then .s (findF F k.file k.name)
 else if k.kind=6 then .s (bK F k.file k.name)
 else if k.kind=7 then .s (v k.file k.name)
 else .s (pK F v k.file)
section
variable {F:eV} {v:ByteArray->ByteArray->ByteArray}
def oH(fs:List ByteArray):List Lk:=fs.map fun f=>.slot ⟨4,f,bA⟩
def rE(F:eV)(f nm:ByteArray):List Lk:=.slot ⟨5,f,nm⟩::(if eM (findF F f nm) then [.slot ⟨3,findF F f nm,bA⟩] else [])
def iS(F:eV)(f:ByteArray)(ns:List ByteArray):List Lk:=ns.flatMap (rE F f)
def fB(F:eV)(f:ByteArray)(ns:List ByteArray):List Lk:=ns.flatMap fun n=>[.slot ⟨5,f,n⟩,.slot ⟨7,findF F f n,n⟩]
def l6(F:eV)(f:ByteArray)(its:List cL)(i:cL):List Lk:=
 if i.kind==0 then [.slot ⟨1,i.name,bA⟩] else if 1<(aU i.name its).length then [] else .slot ⟨6,f,i.name⟩::(if bB (bK F f i.name) eX then [] else [.slot ⟨7,f,i.name⟩])
def l7(F:eV)(f:ByteArray)(its:List cL)(l:List cL):List Lk:=l.flatMap (l6 F f its)
theorem zW(nm:ByteArray)(c:ByteArray->Prog V):∀(fs:List ByteArray) (found:ByteArray),bV F (bQ F v) (pE nm c fs found)=bV F (bQ F v) (c (kJ F nm fs found))/\qs F (bQ F v) (pE nm c fs found)=oH fs++qs F (bQ F v) (c (kJ F nm fs found))
 | [],found=>⟨rfl,rfl⟩
 | f::fs,found=>by
  simp only[pE,Jo,bV,qs,kJ,oH,List.map_cons];have e:bQ F v ⟨4,f,bA⟩ = .x (uU F f):=rfl;rw[e];simp only;split
  . obtain⟨a,b⟩:=zW nm c fs (if bB found none_ then f else rY)
    exact⟨a,by rw[b];rfl⟩
  . obtain⟨a,b⟩:=zW nm c fs found
    exact⟨a,by rw[b];rfl⟩
theorem JN(f nm:ByteArray)(c:ByteArray->Prog V):bV F (bQ F v) (xF f nm c)=bV F (bQ F v) (c (pJ F f nm))/\qs F (bQ F v) (xF f nm c)=rE F f nm++qs F (bQ F v) (c (pJ F f nm)):=by
 simp only[xF,oM,bV,qs,pJ,rE];have e:bQ F v ⟨5,f,nm⟩ = .s (findF F f nm):=rfl;rw[e];simp only;split
 . simp only[p8,bV,qs]
   have e:bQ F v ⟨3,findF F f nm,bA⟩ = .r (aO F (findF F f nm)).1 (aO F (findF F f nm)).2:=rfl;rw[e];simp only;cases aU nm (aO F (findF F f nm)).1 with
   | nil=>exact⟨rfl,rfl⟩
   | cons i l=>
    cases l with
    | nil=>exact⟨rfl,rfl⟩
    | cons j l=>exact⟨rfl,rfl⟩
 . exact⟨rfl,rfl⟩
theorem Bn(f:ByteArray)(c:(ByteArray->ByteArray)->Prog V):∀(ns:List ByteArray) (M:ByteArray->ByteArray),bV F (bQ F v) (mQ f c ns M)=bV F (bQ F v) (c (qI F f ns M))/\qs F (bQ F v) (mQ f c ns M)=iS F f ns++qs F (bQ F v) (c (qI F f ns M))
 | [],M=>⟨rfl,rfl⟩
 | n::ns,M=>by
  simp only[mQ,qI,iS,List.flatMap_cons];obtain⟨a,b⟩:=JN (F:=F) (v:=v) f n fun t=>mQ f c ns fun x=>if x=n then t else M x;obtain⟨a2,b2⟩:=Bn f c ns fun x=>if x=n then pJ F f n else M x;refine⟨a.trans a2,?_⟩;rw[b,b2,List.append_assoc];rfl
theorem xR(hv:∀f n,gP (v f n)=true)(f:ByteArray)(c:ByteArray->(ByteArray->Int)->Prog V):∀(ns:List ByteArray) (fault:ByteArray) (M:ByteArray->Int),bV F (bQ F v) (lR f c ns fault M)=bV F (bQ F v) (c (cS F v f ns fault M).1 (cS F v f ns fault M).2)/\qs F (bQ F v) (lR f c ns fault M)=fB F f ns++qs F (bQ F v) (c (cS F v f ns fault M).1 (cS F v f ns fault M).2)
 | [],fault,M=>⟨rfl,rfl⟩
 | n::ns,fault,M=>by
  simp only[lR,oM,bV,qs,cS,fB,List.flatMap_cons];have e:bQ F v ⟨5,f,n⟩ = .s (findF F f n):=rfl;rw[e];simp only[bV,qs];have e:bQ F v ⟨7,findF F f n,n⟩ = .s (v (findF F f n) n):=rfl;rw[e];simp only[hv,if_true];obtain⟨a,b⟩:=xR hv f c ns (fT fault (v (findF F f n) n)) fun x=>if x=n then eN (v (findF F f n) n) else M x;exact⟨a,by rw[b];rfl⟩
theorem GZ(f:ByteArray)(its:List cL)(i:cL)(c:ByteArray->Prog V):bV F (bQ F v) (kP f its i c)=bV F (bQ F v) (c (lZ F v f its i))/\qs F (bQ F v) (kP f its i c)=l6 F f its i++qs F (bQ F v) (c (lZ F v f its i)):=by
 unfold kP lZ l6;by_cases h1:(i.kind==0)=true
 . simp only[h1,if_true,oM,bV,qs]
   have e:bQ F v ⟨1,i.name,bA⟩ = .s (if (F i.name).isSome then tJ else Ml):=rfl;rw[e];simp only;cases h:(F i.name).isSome
   . have:bB Ml tJ=false:=cP (by decide)
     simp[this]
   . have:bB tJ tJ=true:=aZ.2 rfl
     simp[this]
 . simp only[h1,if_false,Bool.false_eq_true]
   split
   . exact⟨rfl,rfl⟩
   . simp only[oM,bV,qs]
     have e:bQ F v ⟨6,f,i.name⟩ = .s (bK F f i.name):=rfl;rw[e];simp only;split
     . exact⟨rfl,rfl⟩
     . simp only[bV,qs]
       exact⟨rfl,rfl⟩
theorem DX{toks:List Tok}{num:Nat}(hn:num<toks.length)(word out:ByteArray)(c:ByteArray->Prog V):mR toks num word out c=c (rD toks num word out):=by
 unfold mR rD;split
 . rfl
 . rw[List.getElem?_eq_getElem hn]
theorem uV(f:ByteArray)(toks:List Tok)(its:List cL)(c:ByteArray->Prog V):∀(l:List cL) (out:ByteArray),(∀i∈l,i.num<toks.length)->bV F (bQ F v) (gT f toks its c l out)=bV F (bQ F v) (c (kR F v f toks its l out))/\qs F (bQ F v) (gT f toks its c l out)=l7 F f its l++qs F (bQ F v) (c (kR F v f toks its l out))
 | [],out,_=>⟨rfl,rfl⟩
 | i::l,out,h=>by
  simp only[gT,kR,l7,List.flatMap_cons];obtain⟨a,b⟩:=GZ (F:=F) (v:=v) f its i fun word=>mR toks i.num word out fun out'=>gT f toks its c l out';obtain⟨a2,b2⟩:=uV f toks its c l (rD toks i.num (lZ F v f its i) out) fun j hj=>h j (List.mem_cons_of_mem _ hj);rw[DX (h i (by simp))] at a b;refine⟨a.trans a2,?_⟩;rw[b,b2,List.append_assoc];rfl
def cW(F:eV)(k:K):List Lk:=
 if k.kind=1 then [.src k.file]
 else if k.kind=2 then [.src k.file]
 else if k.kind=3 then [.slot ⟨2,k.file,bA⟩]
 else if k.kind=4 then [.slot ⟨3,k.file,bA⟩]
 else if k.kind=5 then .slot ⟨3,k.file,bA⟩::(match aU k.name (aO F k.file).1 with | []=>oH (bS (aO F k.file).1 [])|_=>[])
 else if k.kind=6 then .slot ⟨3,k.file,bA⟩::(match aU k.name (aO F k.file).1 with | [i]=>(match i.ex with|none=>[]|some e=>iS F k.file (aL e []))|_=>[])
 else if k.kind=7 then .slot ⟨6,k.file,k.name⟩::(if bB (bK F k.file k.name) none_||bB (bK F k.file k.name) eX then [] else .slot ⟨3,k.file,bA⟩::(match dD F k.file k.name with|none=>[]|some e=>fB F k.file (aL e [])))
 else .slot ⟨2,k.file,bA⟩::.slot ⟨3,k.file,bA⟩::l7 F k.file (aO F k.file).1 (aO F k.file).1
theorem fX{nm:ByteArray}{its:List cL}{i:cL}(h:i∈aU nm its):i∈its/\i.kind≠0/\i.name=nm:=by
 unfold aU at h;rw[List.mem_filter] at h;obtain⟨h1,h2⟩:=h;unfold Jn at h2;simp only[Bool.and_eq_true,Bool.not_eq_true',beq_eq_false_iff_ne] at h2;exact⟨h1,h2.1,toList_inj.1 h2.2⟩
theorem Bo{f nm:ByteArray}{i:cL}(h:i∈aU nm (aO F f).1):∃e,i.ex=some e:=by
 obtain⟨h1,h2,_⟩:=fX h;obtain⟨_,_,e,he,_⟩:=((dS _).1 i h1).let' h2;exact⟨e,he⟩
theorem oV{f nm:ByteArray}(h:(bB (bK F f nm) none_||bB (bK F f nm) eX)=false):∃i e,aU nm (aO F f).1 = [i]/\i.ex=some e/\dD F f nm=some e:=by
 have h0:=h;unfold bK at h;cases hn:aU nm (aO F f).1 with
 | nil=>
  rw[hn] at h;have:bB none_ none_=true:=aZ.2 rfl
  simp[this] at h
 | cons i l=>
  cases l with
  | cons j l=>
   rw[hn] at h;have:bB none_ none_=true:=aZ.2 rfl
   simp[this] at h
  | nil=>
   obtain⟨e,he⟩:=Bo (F:=F) (f:=f) (nm:=nm) (i:=i) (by rw[hn];simp);exact⟨i,e,rfl,he,by simp[dD,h0,hn,he]⟩
end
section
variable {F:eV}
theorem G0:fG bA=0:=by
 unfold fG;rw[cP (by decide),cP (by decide),cP (by decide)];rfl
theorem G1:fG dA=3:=by
 unfold fG;rw[aZ.2 rfl];rfl
theorem JO(v:ByteArray):fG v<=3:=by
 unfold fG;repeat' split
 all_goals omega
theorem CI{v:ByteArray}(h:fG v=3):v=dA:=by
 unfold fG at h;split at h
 . exact aZ.1 (by assumption)
 . split at h
   . omega
   . split at h <;> omega
theorem G2{v:ByteArray}(h:0<fG v):gP v=true/\v≠bA:=by
 unfold fG at h;unfold gP;split at h
 . rename_i h1;exact⟨by simp[h1],fun e=>by rw[aZ.1 h1] at e;exact absurd e (by decide)⟩
 . split at h
   . rename_i h1;exact⟨by simp[h1],fun e=>by rw[aZ.1 h1] at e;exact absurd e (by decide)⟩
   . split at h
     . rename_i h1;exact⟨by simp[h1],fun e=>by rw[aZ.1 h1] at e;exact absurd e (by decide)⟩
     . omega
theorem CJ(f v:ByteArray):fG f<=fG (fT f v)/\fG v<=fG (fT f v):=by
 unfold fT;split <;> omega
def s7(f:ByteArray):Prop:=f=bA\/0<fG f
theorem G3{f v:ByteArray}(h:s7 f):s7 (fT f v):=by
 unfold fT;split
 . exact .inr (by omega)
 . exact h
theorem nC(v:ByteArray->ByteArray->ByteArray)(f:ByteArray):∀(ns:List ByteArray) (fault:ByteArray) (M:ByteArray->Int),s7 fault->s7 (cS F v f ns fault M).1/\fG fault<=fG (cS F v f ns fault M).1/\∀n∈ns,fG (v (findF F f n) n)<=fG (cS F v f ns fault M).1
 | [],fault,M,h=>⟨h,Nat.le_refl _,fun _ x=>by simp at x⟩
 | n::ns,fault,M,h=>by
  obtain⟨a,b,c⟩:=nC v f ns (fT fault (v (findF F f n) n)) (fun x=>if x=n then eN (v (findF F f n) n) else M x) (G3 h);have:=CJ fault (v (findF F f n) n)
  unfold cS;refine⟨a,by omega,fun m hm=>?_⟩;rcases List.mem_cons.1 hm with rfl|hm
  . omega
  . exact c m hm
theorem Bp(v:ByteArray->ByteArray->ByteArray)(f:ByteArray):∀(ns:List ByteArray) (fault:ByteArray) (M:ByteArray->Int),(∀n,0<=M n/\M n<=999999999)->∀n,0<=(cS F v f ns fault M).2 n/\(cS F v f ns fault M).2 n<=999999999
 | [],fault,M,h=>h
 | n::ns,fault,M,h=>by
  unfold cS;exact Bp v f ns _ _ fun m=>by
   show 0<=(if m=n then eN (v (findF F f n) n) else M m)/\(if m=n then eN (v (findF F f n) n) else M m)<=999999999;split
   . exact uN _
   . exact h m
theorem pL{v v':ByteArray->ByteArray->ByteArray}(f:ByteArray):∀(ns:List ByteArray) (fault:ByteArray) (M:ByteArray->Int),(∀n∈ns,v (findF F f n) n=v' (findF F f n) n)->cS F v f ns fault M=cS F v' f ns fault M
 | [],fault,M,_=>rfl
 | n::ns,fault,M,h=>by
  unfold cS;rw[h n (by simp)];exact pL f ns _ _ fun m hm=>h m (List.mem_cons_of_mem _ hm)
theorem rF{v v':ByteArray->ByteArray->ByteArray}{f nm:ByteArray}(h:∀e,dD F f nm=some e->∀n∈aL e [],v (findF F f n) n=v' (findF F f n) n):gY F v f nm=gY F v' f nm:=by
 unfold gY;cases he:dD F f nm with
 | none=>rfl
 | some e=>simp only;rw[pL f _ _ _ (h e he)]
theorem Bq(f nm:ByteArray):bK F f nm=none_\/bK F f nm=eX\/bK F f nm=eP\/bK F f nm=fS:=by
 unfold bK;split
 . rename_i i hn
   obtain⟨h1,h2,_⟩:=fX (nm:=nm) (its:=(aO F f).1) (i:=i) (by rw[hn];simp);obtain⟨_,ht,_⟩:=((dS _).1 i h1).let' h2;split
   . exact .inr (.inl rfl)
   . split
     . rcases ht with h|h
       . exact .inr (.inr (.inl h))
       . exact .inr (.inr (.inr h))
     . exact .inr (.inl rfl)
 . exact .inl rfl
theorem EE{f nm:ByteArray}(h:dD F f nm=none):bK F f nm=none_\/bK F f nm=eX:=by
 cases hb:(bB (bK F f nm) none_||bB (bK F f nm) eX) with
 | true=>
  rcases Bool.or_eq_true_iff.1 hb with h1|h1
  . exact .inl (aZ.1 h1)
  . exact .inr (aZ.1 h1)
 | false=>
  obtain⟨i,e,_,_,h3⟩:=oV hb;rw[h] at h3;cases h3
theorem qJ{f nm:ByteArray}{e:Ex}(h:dD F f nm=some e):dY e/\∃i,aU nm (aO F f).1 = [i]/\i.ex=some e/\(bB (bK F f nm) none_||bB (bK F f nm) eX)=false:=by
 cases hb:(bB (bK F f nm) none_||bB (bK F f nm) eX) with
 | true=>unfold dD at h;rw[hb] at h;simp at h
 | false=>
  obtain⟨i,e',h1,h2,h3⟩:=oV hb;rw[h] at h3;cases h3;exact⟨uM i (fX (nm:=nm) (by rw[show (bY (dP F f)).1=(aO F f).1 from rfl,h1];simp)).1 _ h2,i,h1,h2,rfl⟩
theorem Br(v:ByteArray->ByteArray->ByteArray)(f nm:ByteArray):gP (gY F v f nm)=true:=by
 unfold gY;cases he:dD F f nm with
 | none=>
  simp only;rcases EE he with h|h
  . rw[h];unfold gP;rw[show bB none_ none_=true from aZ.2 rfl];simp
  . rw[h];unfold gP;rw[show bB eX eX=true from aZ.2 rfl];simp
 | some e=>
  simp only;obtain⟨hn,_⟩:=qJ he;obtain⟨a,_,_⟩:=nC (F:=F) v f (aL e []) bA (fun _=>0) (.inl rfl);have hM:=Bp (F:=F) v f (aL e []) bA (fun _=>0) fun _=>by omega
  generalize cS F v f (aL e []) bA (fun _=>0)=p at *;unfold gF;rcases a with h|h
  . rw[h,show bB bA bA=true from aZ.2 rfl,if_pos rfl]
    cases hr:dO p.2 e with
    | none=>simp only;unfold gP;rw[show bB q8 q8=true from aZ.2 rfl];simp
    | some n=>
     have:=lC hM e hn n hr
     exact Bi this.1 this.2
  . obtain⟨h1,h2⟩:=G2 h
    rw[cP h2];simp only[Bool.false_eq_true,if_false];exact h1
theorem EG{v:ByteArray->ByteArray->ByteArray}{f nm:ByteArray}{e:Ex}(he:dD F f nm=some e){n:ByteArray}(hn:n∈aL e [])(hc:v (findF F f n) n=dA):gY F v f nm=dA:=by
 unfold gY;rw[he];simp only;obtain⟨_,_,c⟩:=nC (F:=F) v f (aL e []) bA (fun _=>0) (.inl rfl);have h1:=c n hn;rw[hc,G1] at h1;have h2:=JO (cS F v f (aL e []) bA fun _=>0).1;have h3:=CI (v:=(cS F v f (aL e []) bA fun _=>0).1) (by omega);unfold gF;rw[h3,cP (by decide)];rfl
def eL(F:eV):Nat->ByteArray->ByteArray->Option ByteArray
 | 0,_,_=>none
 | d+1,f,nm=>
  if ((dD F f nm).map fun e=>(aL e []).all fun n=>(eL F d (findF F f n) n).isSome).getD true then some (gY F (fun g n=>(eL F d g n).getD bA) f nm) else none
theorem l8{d:Nat}{f nm x:ByteArray}(h:eL F (d+1) f nm=some x):(∀e,dD F f nm=some e->∀n∈aL e [],∃y,eL F d (findF F f n) n=some y)/\x=gY F (fun g n=>(eL F d g n).getD bA) f nm:=by
 unfold eL at h;split at h
 . rename_i hc
   refine⟨fun e he n hn=>?_,by cases h;rfl⟩;rw[he] at hc;simp only[Option.map_some,Option.getD_some,List.all_eq_true] at hc;exact Option.isSome_iff_exists.1 (hc n hn)
 . cases h
theorem DY{d:Nat}{f nm:ByteArray}(h:∀e,dD F f nm=some e->∀n∈aL e [],∃y,eL F d (findF F f n) n=some y):eL F (d+1) f nm=some (gY F (fun g n=>(eL F d g n).getD bA) f nm):=by
 have hc:((dD F f nm).map fun e=>(aL e []).all fun n=>(eL F d (findF F f n) n).isSome).getD true=true:=by
  cases he:dD F f nm with
  | none=>rfl
  | some e=>
   simp only[Option.map_some,Option.getD_some,List.all_eq_true];intro n hn;obtain⟨y,hy⟩:=h e he n hn;rw[hy];rfl
 rw[eL,if_pos hc]
theorem zX:∀(d:Nat) (f nm x:ByteArray),eL F d f nm=some x->eL F (d+1) f nm=some x
 | 0,f,nm,x,h=>by simp[eL] at h
 | d+1,f,nm,x,h=>by
  obtain⟨h1,h2⟩:=l8 h;have h3:∀e,dD F f nm=some e->∀n∈aL e [],∃y,eL F (d+1) (findF F f n) n=some y/\eL F d (findF F f n) n=some y:=fun e he n hn=>by
   obtain⟨y,hy⟩:=h1 e he n hn;exact⟨y,zX d _ _ _ hy,hy⟩
  rw[DY fun e he n hn=>let ⟨y,a,_⟩:=h3 e he n hn;⟨y,a⟩,h2];congr 1;refine rF fun e he n hn=>?_;obtain⟨y,a,b⟩:=h3 e he n hn;simp only[a,b]
theorem zY{d d':Nat}(h:d<=d'){f nm x:ByteArray}(hx:eL F d f nm=some x):eL F d' f nm=some x:=by
 induction h with
 | refl=>exact hx
 | step _ ih=>exact zX _ _ _ _ ih
structure jT (F:eV) (v:ByteArray->ByteArray->ByteArray):Prop where
 sm:∀d f nm x,eL F d f nm=some x->v f nm=x
 nn:∀f nm,(∀d,eL F d f nm=none)->v f nm=dA
theorem uW(F:eV):∃v,jT F v:=by
 have key:∀f nm,∃y,(∀d x,eL F d f nm=some x->y=x)/\((∀d,eL F d f nm=none)->y=dA):=fun f nm=>by
  by_cases h:∃d x,eL F d f nm=some x
  . obtain⟨d,x,hx⟩:=h
    refine⟨x,fun d' x' hx'=>?_,fun hn=>by rw[hn d] at hx;cases hx⟩;have e1:=zY (Nat.le_max_left d d') hx;have e2:=zY (Nat.le_max_right d d') hx';rw[e1] at e2;cases e2;rfl
  . exact⟨dA,fun d x hx=>absurd ⟨d,x,hx⟩ h,fun _=>rfl⟩
 exact⟨fun f nm=>Classical.choose (key f nm),fun d f nm x h=>(Classical.choose_spec (key f nm)).1 d x h,fun f nm h=>(Classical.choose_spec (key f nm)).2 h⟩
theorem Bs{α:Type}{P:Nat->α->Prop}(Ej:∀d d' a,d<=d'->P d a->P d' a):∀(l:List α),(∀a∈l,∃d,P d a)->∃d,∀a∈l,P d a
 | [],_=>⟨0,fun _ x=>by simp at x⟩
 | a::l,h=>by
  obtain⟨d1,h1⟩:=h a (by simp);obtain⟨d2,h2⟩:=Bs Ej l fun b hb=>h b (List.mem_cons_of_mem _ hb);refine⟨max d1 d2,fun b hb=>?_⟩;rcases List.mem_cons.1 hb with rfl|hb
  . exact Ej _ _ _ (Nat.le_max_left _ _) h1
  . exact Ej _ _ _ (Nat.le_max_right _ _) (h2 b hb)
theorem jT.eq{v:ByteArray->ByteArray->ByteArray}(h:jT F v)(f nm:ByteArray):v f nm=gY F v f nm:=by
 by_cases hall:∀e,dD F f nm=some e->∀n∈aL e [],∃d y,eL F d (findF F f n) n=some y
 . have hmax:∃d,∀e,dD F f nm=some e->∀n∈aL e [],∃y,eL F d (findF F f n) n=some y:=by
    cases he:dD F f nm with
    | none=>exact⟨0,fun e x=>by cases x⟩
    | some e=>
     obtain⟨d,hd⟩:=Bs (P:=fun d n=>∃y,eL F d (findF F f n) n=some y) (fun d d' a hd ⟨y,hy⟩=>⟨y,zY hd hy⟩) (aL e []) fun n hn=>hall e he n hn;exact⟨d,fun e' x=>by cases x;exact hd⟩
   obtain⟨d,hd⟩:=hmax;have h1:=DY hd;rw[h.sm _ _ _ _ h1];refine rF fun e he n hn=>?_;obtain⟨y,hy⟩:=hd e he n hn;rw[h.sm _ _ _ _ hy,hy];rfl
 . obtain⟨e,h1⟩:=Classical.not_forall.1 hall
   obtain⟨he,h1⟩:=Classical.not_imp.1 h1;obtain⟨n,h1⟩:=Classical.not_forall.1 h1;obtain⟨hn,h1⟩:=Classical.not_imp.1 h1;have hnone:∀g m,(¬∃d y,eL F d g m=some y)->v g m=dA:=fun g m hx=>h.nn g m fun d=>by
    cases hd:eL F d g m with
    | none=>rfl
    | some y=>exact absurd ⟨d,y,hd⟩ hx
   rw[EG he hn (hnone _ _ h1)];refine hnone f nm fun⟨d,y,hd⟩=>?_;cases d with
   | zero=>simp[eL] at hd
   | succ d=>
    obtain⟨y2,hy2⟩:=(l8 hd).1 e he n hn;exact h1 ⟨d,y2,hy2⟩
end
structure MW (mv:Value) (M:ByteArray->Int) (w:World):Prop where
 look:∀W,Below w.heap.size w W->∀nm,∃ty,(Instr.lookup 195 mv (.string nm) false).run Tryz.prog W = .ok (.agg #[.string ty,.int .i64 (M nm)]) W
 lo:∀nm,0<=M nm
 hi:∀nm,M nm<=999999999
theorem MW.below{mv:Value}{M:ByteArray->Int}{w w':World}(h:MW mv M w)(hb:Below w.heap.size w w'):MW mv M w':=⟨fun W hW=>h.look W (aF hb hW),h.lo,h.hi⟩
def okB(r:Option Int):Prop:=∀a,r=some a->0<=a/\a<=999999999
def gI(x:Value)(r:(ByteArray->Int)->Option Int):Prop:=
 (∃(T:TypeId) (v u:Value) (F:FuncId),x = .iface T v/\(∀w,(method 414 T v "almanac/lang.reckon").run Tryz.prog w = .ok (F,u) w)/\(∀args w,(callFunc F args).run Tryz.prog w = .ok (.enter F args) w)/\Tryz.prog.inits.idxOf? F=none/\
   ∀(mv:Value) (M:ByteArray->Int) (w:World),MW mv M w->
    Calls Tryz.prog F #[u,mv] w fun e w'=>e = .returned (.tuple #[.int .i64 ((r M).getD 0),.bool (r M).isSome])/\Below w.heap.size w w')/\∀M,(∀nm,0<=M nm)->(∀nm,M nm<=999999999)->okB (r M)
theorem G4(n:Int)(w:World):(method 414 197 (.int .i64 n) "almanac/lang.reckon").run Tryz.prog w = .ok (245,(.int .i64 n)) w:=by kernel_rfl
theorem G6(args:Array Value)(w:World):(callFunc 245 args).run Tryz.prog w = .ok (.enter 245 args) w:=by kernel_rfl
theorem JP(n:Bool)(w:World):(method 414 290 (.bool n) "almanac/lang.reckon").run Tryz.prog w = .ok (258,(.bool n)) w:=by kernel_rfl
theorem JQ(args:Array Value)(w:World):(callFunc 258 args).run Tryz.prog w = .ok (.enter 258 args) w:=by kernel_rfl
theorem Lw(n:ByteArray)(w:World):(method 414 291 (.string n) "almanac/lang.reckon").run Tryz.prog w = .ok (262,(.string n)) w:=by kernel_rfl
theorem Lx(args:Array Value)(w:World):(callFunc 262 args).run Tryz.prog w = .ok (.enter 262 args) w:=by kernel_rfl
theorem Ly(n:Value)(w:World):(method 414 271 n "almanac/lang.reckon").run Tryz.prog w = .ok (251,n) w:=by kernel_rfl
theorem Lz(args:Array Value)(w:World):(callFunc 251 args).run Tryz.prog w = .ok (.enter 251 args) w:=by kernel_rfl
theorem G7(n:Value)(w:World):(method 414 293 n "almanac/lang.reckon").run Tryz.prog w = .ok (266,n) w:=by kernel_rfl
theorem G8(args:Array Value)(w:World):(callFunc 266 args).run Tryz.prog w = .ok (.enter 266 args) w:=by kernel_rfl
theorem uX(n:Int)(h0:0<=n)(h1:n<=999999999):gI (.iface 197 (.int .i64 n)) (fun _=>some n):=by
 refine⟨⟨_,_,_,_,rfl,G4 _,G6,by kernel_rfl,fun mv M w hM=>?_⟩,fun M _ _ a ha=>by injection ha with ha;subst ha;exact⟨h0,h1⟩⟩;go_enter Tryz.func245,Tryz.ntmps245;go_wp2;go_ret2;exact⟨rfl,Below.refl _ _⟩
theorem iL(b:Bool)(w:World):Calls Tryz.prog 131 #[.bool b] w fun e w'=>e = .returned (.int .i64 (if b then 1 else 0))/\w'=w:=by
 cases b;all_goals
  go_enter Tryz.func131,Tryz.ntmps131;go_wp2;go_ret;exact⟨rfl,rfl⟩
theorem rG(n:Int)(w:World):Calls Tryz.prog 254 #[.int .i64 n] w fun e w'=>e = .returned (.tuple #[.int .i64 ((pD n).getD 0),.bool (pD n).isSome])/\w'=w:=by
 by_cases h:999999999<n
 . have HB:=hid (show pD n=none from if_pos h)
   go_enter Tryz.func254,Tryz.ntmps254;go_wp2;go_ret2;rw[HB.out];exact⟨rfl,rfl⟩
 . have HB:=hid (show pD n=some n from if_neg h)
   go_enter Tryz.func254,Tryz.ntmps254;go_wp2;go_ret2;rw[HB.out];exact⟨rfl,rfl⟩
theorem CK(a:ByteArray)(b:Int)(w:World):(Instr.field 199 (.agg #[.string a,.int .i64 b]) 1).run Tryz.prog w = .ok (.int .i64 b) w:=by kernel_rfl
theorem wV(b:Bool):gI (.iface 290 (.bool b)) (fun _=>some (jN b)):=by
 refine⟨⟨_,_,_,_,rfl,JP _,JQ,by kernel_rfl,fun mv M w hM=>?_⟩,fun M _ _ a ha=>by injection ha with ha;subst ha;cases b <;> decide⟩;go_enter Tryz.func258,Tryz.ntmps258;go_wp2_with fail
 refine (iL b w).mono ?_;rw[show (if b then (1:Int) else 0)=jN b from rfl];rintro e w1⟨rfl,rfl⟩;go_wp2;go_ret2;exact⟨rfl,Below.refl _ _⟩
theorem zZ(t:ByteArray):gI (.iface 291 (.string t)) (fun M=>some (M t)):=by
 refine⟨⟨_,_,_,_,rfl,Lw _,Lx,by kernel_rfl,fun mv M w hM=>?_⟩,fun M h0 h1 a ha=>by injection ha with ha;subst ha;exact⟨h0 t,h1 t⟩⟩;obtain⟨ty,h0⟩:=hM.look w (Below.refl _ _) t;have hfd:=CK ty (M t);go_enter Tryz.func262,Tryz.ntmps262;go_wp2;go_ret2;exact⟨rfl,Below.refl _ _⟩
def pM(op:List UInt8)(l r:(ByteArray->Int)->Option Int):(ByteArray->Int)->Option Int:=fun M=>
 match l M,r M with
 | some a,some b=>if op = [43] then pD (a+b) else if op = [42] then pD (a*b) else some (jN (a==b))
 | _,_=>none
theorem rH{op:List UInt8}{l r:(ByteArray->Int)->Option Int}{M:ByteArray->Int}(h:l M=none):pM op l r M=none:=by simp[pM,h]
theorem rI{op:List UInt8}{l r:(ByteArray->Int)->Option Int}{M:ByteArray->Int}{a:Int}(h:l M=some a)(h':r M=none):pM op l r M=none:=by simp[pM,h,h']
theorem G9{n:Int}(h0:0<=n):okB (pD n):=by
 intro a ha;unfold pD at ha;split at ha
 . simp at ha
 . injection ha with ha;omega
theorem Ha(b:Bool):0<=jN b/\jN b<=999999999:=by cases b <;> decide
theorem Hb{op:List UInt8}{l r:(ByteArray->Int)->Option Int}{M:ByteArray->Int}(h1:okB (l M))(h2:okB (r M)):okB (pM op l r M):=by
 cases hl:l M with
 | none=>rw[rH hl];intro a ha;simp at ha
 | some a=>
  cases hr:r M with
  | none=>rw[rI hl hr];intro a ha;simp at ha
  | some b=>
   have ha:=h1 a hl;have hb:=h2 b hr;simp only[pM,hl,hr];split
   . exact G9 (by omega)
   . split
     . exact G9 (Int.mul_nonneg ha.1 hb.1)
     . intro c hc;injection hc with hc;subst hc;exact Ha _
theorem z6{op:List UInt8}(hop:op = [43]\/op = [42]\/op = [61,61]){l r:Value}{f g:(ByteArray->Int)->Option Int}(hl:gI l f)(hr:gI r g):gI (lP ⟨⟨op⟩⟩ l r) (pM op f g):=by
 obtain⟨⟨T1,v1,u1,F1,rfl,m1,e1,_,c1⟩,b1⟩:=hl;obtain⟨⟨T2,v2,u2,F2,rfl,m2,e2,_,c2⟩,b2⟩:=hr;refine⟨⟨_,_,_,_,rfl,Ly _,Lz,by kernel_rfl,fun mv M w hM=>?_⟩,fun M h0 h1=>Hb (b1 M h0 h1) (b2 M h0 h1)⟩;have hbl:=cG w (.cells #[.string ⟨⟨op⟩⟩,.iface T1 v1,.iface T2 v2] 271);have HBL:=hid hbl;have hN:=aI w (.cells #[.string ⟨⟨op⟩⟩,.iface T1 v1,.iface T2 v2] 271);have HN:=hid hN;have HC1:=hid (c1 mv M _ (hM.below hbl));have HC2:=hid (fun w' hb=>c2 mv M w' (hM.below (aF hbl hb)));have HB1:=hid (b1 M hM.lo hM.hi);have HB2:=hid (b2 M hM.lo hM.hi);have k0:=aA (i:=0) hN;have k1:=aA (i:=1) hN;have k2:=aA (i:=2) hN;clear c1 c2 b1 b2 hM hbl hN;go_enter Tryz.func251,Tryz.ntmps251;go_wp2_with fail
 refine HC1.out.mono ?_;rintro e w1⟨rfl,hb1⟩;have hN1:=below_heap hb1 (aB HN.out) HN.out;have j0:=aA (i:=0) hN1;have j1:=aA (i:=1) hN1;have j2:=aA (i:=2) hN1;have HN1:=hid hN1;have HC2':=hid (HC2.out w1 hb1);have HBW1:=hid (aF HBL.out hb1);clear hN1 hb1 k0 k1 k2 HC1 HC2;cases hf:f M with
 | none=>
  have HF:=hid hf;have HP:=hid (rH (op:=op) (r:=g) hf);clear hf;simp only[Option.getD_none,Option.isSome_none];go_wp2;go_ret2;rw[HP.out];exact⟨rfl,HBW1.out⟩
 | some a=>
  have HF:=hid hf;clear hf;simp only[Option.getD_some,Option.isSome_some];go_wp2_with fail
  refine HC2'.out.mono ?_;rintro e w2⟨rfl,hb2⟩;have hN2:=below_heap hb2 (aB HN1.out) HN1.out;have i0:=aA (i:=0) hN2;have HBW2:=hid (aF HBW1.out hb2);clear hN2 hb2 j0 j1 j2 HC2';cases hg:g M with
  | none=>
   have HP:=hid (rI (op:=op) HF.out hg);clear hg;simp only[Option.getD_none,Option.isSome_none];go_wp2;go_ret2;rw[HP.out];exact⟨rfl,HBW2.out⟩
  | some b=>
   have ha:=HB1.out a HF.out;have hb:=HB2.out b hg;have HR:=hid (show pM op f g M=(if op = [43] then pD (a+b) else if op = [42] then pD (a*b) else some (jN (a==b))) by simp only[pM,HF.out,hg]);clear hg;simp only[Option.getD_some,Option.isSome_some];rcases hop with rfl|rfl|rfl
   . have hs0:0<=a+b:=by omega
     have hs1:a+b<=1999999998:=by omega
     have HR2:=hid (HR.out.trans (if_pos rfl));go_wp2_with fail
     refine (rG (a+b) w2).mono ?_;rintro e w3⟨rfl,rfl⟩;go_wp2;go_ret2;rw[HR2.out];exact⟨rfl,HBW2.out⟩
   . have hs0:0<=a*b:=Int.mul_nonneg ha.1 hb.1
     have hs1:a*b<=999999999*999999999:=Int.mul_le_mul ha.2 hb.2 hb.1 (by decide);have HR2:=hid (HR.out.trans ((if_neg (by decide)).trans (if_pos rfl)));go_wp2_with fail
     refine (rG (a*b) w2).mono ?_;rintro e w3⟨rfl,rfl⟩;go_wp2;go_ret2;rw[HR2.out];exact⟨rfl,HBW2.out⟩
   . have HR2:=hid (HR.out.trans ((if_neg (by decide)).trans (if_neg (by decide))))
     go_wp2_with fail
     refine (iL (a==b) w2).mono ?_;rw[show (if (a==b)=true then (1:Int) else 0)=jN (a==b) from rfl];rintro e w3⟨rfl,rfl⟩;go_wp2;go_ret2;rw[HR2.out];exact⟨rfl,HBW2.out⟩
def eD:Option Int->Option Int->Option Int->Option Int
 | some b,some d,some a=>some (bif a==1 then b else d)
 | _,_,_=>none
def s8(c y n:(ByteArray->Int)->Option Int):(ByteArray->Int)->Option Int:=fun M=>eD (y M) (n M) (c M)
theorem CL{c y n:Option Int}(h1:okB y)(h2:okB n):okB (eD y n c):=by
 intro a ha;match y,n,c,ha with
 | some b,some d,some e,ha=>
  simp only[eD] at ha;injection ha with ha;subst ha;cases (e==1)
  . exact h2 d rfl
  . exact h1 b rfl
theorem uY{c y n:Value}{f g k:(ByteArray->Int)->Option Int}(hc:gI c f)(hy:gI y g)(hn:gI n k):gI (iF c y n) (s8 f g k):=by
 obtain⟨⟨T1,v1,u1,F1,rfl,m1,e1,_,c1⟩,b1⟩:=hc;obtain⟨⟨T2,v2,u2,F2,rfl,m2,e2,_,c2⟩,b2⟩:=hy;obtain⟨⟨T3,v3,u3,F3,rfl,m3,e3,_,c3⟩,b3⟩:=hn;refine⟨⟨_,_,_,_,rfl,G7 _,G8,by kernel_rfl,fun mv M w hM=>?_⟩,fun M h0 h1=>CL (b2 M h0 h1) (b3 M h0 h1)⟩;have hbl:=cG w (.cells #[.iface T1 v1,.iface T2 v2,.iface T3 v3] 293);have HBL:=hid hbl;have hN:=aI w (.cells #[.iface T1 v1,.iface T2 v2,.iface T3 v3] 293);have HN:=hid hN;have HC2:=hid (c2 mv M _ (hM.below hbl));have HC3:=hid (fun w' hb=>c3 mv M w' (hM.below (aF hbl hb)));have HC1:=hid (fun w' hb=>c1 mv M w' (hM.below (aF hbl hb)));have k0:=aA (i:=0) hN;have k1:=aA (i:=1) hN;have k2:=aA (i:=2) hN;clear c1 c2 c3 b1 b2 b3 hM hbl hN;go_enter Tryz.func266,Tryz.ntmps266;go_wp2_with fail
 refine HC2.out.mono ?_;rintro e w1⟨rfl,hb1⟩;have hN1:=below_heap hb1 (aB HN.out) HN.out;have j0:=aA (i:=0) hN1;have j1:=aA (i:=1) hN1;have j2:=aA (i:=2) hN1;have HN1:=hid hN1;have HB1:=hid hb1;clear hN1 hb1 k0 k1 k2 HC2;obtain⟨gz,hgz⟩:∃gz,gz=g M:=⟨_,rfl⟩
 rw[<-hgz];have HGZ:=hid hgz;clear hgz;go_wp2_with fail
 refine (HC3.out w1 HB1.out).mono ?_;rintro e w2⟨rfl,hb2⟩;have hN2:=below_heap hb2 (aB HN1.out) HN1.out;have i0:=aA (i:=0) hN2;have i1:=aA (i:=1) hN2;have i2:=aA (i:=2) hN2;have HB2:=hid (aF HB1.out hb2);clear hN2 hb2 j0 j1 j2 HC3;obtain⟨kz,hkz⟩:∃kz,kz=k M:=⟨_,rfl⟩
 rw[<-hkz];have HKZ:=hid hkz;clear hkz;go_wp2_with fail
 refine (HC1.out w2 HB2.out).mono ?_;rintro e w3⟨rfl,hb3⟩;have HB3:=hid (aF HB2.out hb3);clear hb3 i0 i1 i2 HC1;obtain⟨fz,hfz⟩:∃fz,fz=f M:=⟨_,rfl⟩
 rw[<-hfz];have HFZ:=hid hfz;clear hfz;have HP:=hid (show s8 f g k M=eD gz kz fz by rw[HGZ.out,HKZ.out,HFZ.out];rfl);clear HGZ HKZ HFZ;cases gz with
 | none=>
  have HP2:=hid (HP.out.trans (show eD none kz fz=none by simp[eD]));cases fz;all_goals
   simp only[Option.getD_none,Option.isSome_none,Option.getD_some,Option.isSome_some];go_wp2;go_ret2;rw[HP2.out];exact⟨rfl,aF HBL.out HB3.out⟩
 | some b=>
  cases kz with
  | none=>
   have HP2:=hid (HP.out.trans (show eD (some b) none fz=none by simp[eD]));cases fz;all_goals
    simp only[Option.getD_none,Option.isSome_none,Option.getD_some,Option.isSome_some];go_wp2;go_ret2;rw[HP2.out];exact⟨rfl,aF HBL.out HB3.out⟩
  | some d=>
   cases fz with
   | none=>
    have HP2:=hid (HP.out.trans (show eD (some b) (some d) none=none by simp[eD]));simp only[Option.getD_none,Option.isSome_none,Option.getD_some,Option.isSome_some];go_wp2;go_ret2;rw[HP2.out];exact⟨rfl,aF HBL.out HB3.out⟩
   | some a=>
    have HP2:=hid (HP.out.trans (show eD (some b) (some d) (some a)=some (bif a==1 then b else d) from rfl));simp only[Option.getD_some,Option.isSome_some];go_wp2_with fail
    refine (iL true w3).mono ?_;rw[show (if (true=true) then (1:Int) else 0)=1 from rfl];rintro e w4⟨rfl,rfl⟩;cases h1:(a==1) with
    | true=>
     have HP3:=hid (HP2.out.trans (by rw[h1];rfl:some (bif a==1 then b else d)=some b));go_wp2;go_ret2;rw[HP3.out];exact⟨rfl,aF HBL.out HB3.out⟩
    | false=>
     have HP3:=hid (HP2.out.trans (by rw[h1];rfl:some (bif a==1 then b else d)=some d));go_wp2;go_ret2;rw[HP3.out];exact⟨rfl,aF HBL.out HB3.out⟩
theorem fY:∀e:Ex,dY e->gI (fF e) (fun M=>dO M e)
 | ⟨.inl n,_⟩,h=>uX n h.1 h.2
 | ⟨.inr (.inl b),_⟩,_=>wV b
 | ⟨.inr (.inr (.inl t)),_⟩,_=>zZ t
 | ⟨.inr (.inr (.inr (.inl op))),s'⟩,h=>by
  have:=z6 h.1 (fY (s' false) h.2.1) (fY (s' true) h.2.2)
  exact this
 | ⟨.inr (.inr (.inr (.inr u))),s'⟩,h=>by
  have h1:=uY (fY (s' none) h.1) (fY (s' (some false)) h.2.1) (fY (s' (some true)) h.2.2);have e:(fun M=>dO M ⟨.inr (.inr (.inr (.inr u))),s'⟩)=s8 (fun M=>dO M (s' none)) (fun M=>dO M (s' (some false))) (fun M=>dO M (s' (some true))):=by
   funext M;simp only[dO,s8,two,three];cases dO M (s' (some false)) with
   | none=>simp[eD]
   | some b=>
    cases dO M (s' (some true)) with
    | none=>simp[eD]
    | some d=>
     cases dO M (s' none) with
     | none=>simp[eD]
     | some a=>simp only[eD];cases (a==1) <;> rfl
  rw[e];exact h1
theorem CM{e:Ex}(h:dY e)(mv:Value)(M:ByteArray->Int)(w:World)(hM:MW mv M w) :
 Calls Tryz.prog 107 #[fF e,mv] w fun e' w'=>e' = .returned (.tuple #[.int .i64 ((dO M e).getD 0),.bool (dO M e).isSome])/\Below w.heap.size w w':=by
 obtain⟨⟨T,v,u,F,hx,m1,e1,_,c1⟩,_⟩:=fY e h;rw[hx];have hc:=c1 mv M w hM;simp only at hc;have HC:=hid hc;clear hc;clear c1 hM;obtain⟨r,hr⟩:∃r,r=dO M e:=⟨_,rfl⟩
 rw[<-hr] at HC ⊢;clear hr hx;go_enter Tryz.func107,Tryz.ntmps107;go_wp2_with fail
 refine HC.out.mono ?_;rintro e' w1⟨rfl,hb⟩;go_wp2;go_ret2;exact⟨rfl,hb⟩
end Go.Proofs.YthibodlojlkppaaGreatDoor
namespace Go.Proofs.YthibodlojlkppaaGreatDoor
open Go.RowKit
def Oi(B b:Nat)(p:Value)(bs:List Value)(w:World):Prop:=Lib.BuilderAt 119 5 B b p bs w
def wF(B b:Nat)(bs:List Value)(w:World):Prop:=Lib.IsBuilder 119 5 B b bs w
def KT(b:Nat)(w w':World):Prop:=∀k,k<w.heap.size->k≠b->(∀cs fr,w.heap[k]? ≠ some (.cells cs 5 fr))->w'.heap[k]? = w.heap[k]?
theorem KT.refl(b:Nat)(w:World):KT b w w:=fun _ _ _ _=>rfl
theorem KT.trans{b:Nat}{w w1 w2:World}(h:KT b w w1)(hs:w.heap.size<=w1.heap.size)(h2:KT b w1 w2):KT b w w2:=fun k hk hn hc=>by
 have e:=h k hk hn hc;rw[h2 k (by omega) hn (fun cs fr=>by rw[e];exact hc cs fr),e]
theorem KT.alloc(b:Nat)(w:World)(o:Obj):KT b w (w.alloc o):=fun k hk _ _=>Below.heap_alloc _ _ _ hk
theorem KT.setCell(b i:Nat)(w:World)(v:Value):KT b w (w.setCell ⟨b,i,none⟩ v):=fun k _ hn _=>aD hn v
theorem KT.grown{b B n:Nat}{w w':World}{v:Value}{xs:List Value}(hown:w.ownsRow B 5 1 v n xs)(hg:w.grownBy w' v.ownBlock):KT b w w':=fun k hk _ hc=>hg.block k hk fun e=>by
 obtain⟨_,⟨rfl,_⟩|⟨g,cap,cur,rfl,_,hg2,_⟩⟩:=hown
 . simp[Value.ownBlock] at e
 . simp[Value.ownBlock] at e
   subst e;exact hc _ _ hg2
theorem KT.get{b k:Nat}{w w':World}(h:KT b w w'){cs:Array Value}{T:TypeId}{fr:Nat×Nat}(hk:w.heap[k]? = some (.cells cs T fr))(hn:k≠b)(hT:T≠5):w'.heap[k]? = some (.cells cs T fr):=
 (h k (aB hk) hn (fun cs' fr' e=>by rw[hk] at e;injection e with e;injection e with e1 e2 e3;exact hT e2)).trans hk
theorem O0:(Tryz.prog.info? 119).map (·.size)=some 2:=by kernel_rfl
theorem MO:liesAt Tryz.prog Tryz.prog.depth 119 (2 / Tryz.prog.cellsOf 119) 0 119 1=true:=by kernel_rfl
theorem CN:(Tryz.prog.info? 5).map (fun i=>(i.zero,i.size,i.bytes))=some (some (.int .u8 0),1,1):=by kernel_rfl
theorem rJ(b:Nat)(w:World)(h0:w.cell? ⟨b,0,none⟩=some (.pointer (some ⟨b,0,none⟩))) :
 Calls Tryz.prog 91 #[.pointer (some ⟨b,0,none⟩)] w fun e w'=>e = .returned (.tuple #[])/\w'=w:=by
 obtain⟨j,hj,_⟩:=Option.map_eq_some_iff.1 O0;go_enter Tryz.func91,Tryz.ntmps91;go_wp2;rw[Lib.run_neq_ptr_same w _ Tryz.underlying116 hj];go_wp2;go_end0
 exact⟨rfl,rfl⟩
theorem pN(b:Nat)(w:World)(h0:w.cell? ⟨b,0,none⟩=some (.pointer none))(hsh:w.shape? b=some (119,2))(hfz:w.frozen? ⟨b,0,none⟩=false) :
 Calls Tryz.prog 91 #[.pointer (some ⟨b,0,none⟩)] w fun e w'=>e = .returned (.tuple #[])/\w'=w.setCell ⟨b,0,none⟩ (.pointer (some ⟨b,0,none⟩)):=by
 obtain⟨j,hj,hjs⟩:=Option.map_eq_some_iff.1 O0;go_enter Tryz.func91,Tryz.ntmps91;go_wp2;rw[Lib.run_to_unsafe w ⟨b,0,none⟩ Tryz.underlying116 Tryz.underlying219 hj (by rw[hjs];decide) hsh (Nat.zero_lt_succ 1)];simp only[Result.andThen];rw[Oper.upon_value];go_wp2;rw[run_callFunc_extern Tryz.func120 (by kernel_rfl) (by kernel_rfl) (by kernel_rfl) (e:=Extern.AbiNoEscape.same) (by kernel_rfl)];rw[Lib.run_noEscape];simp only[Result.andThen];rw[Oper.upon_value];go_wp2;rw[Lib.run_from_unsafe w ⟨b,0,none⟩ Tryz.underlying219 Tryz.underlying116 hj hsh MO];simp only[Result.andThen];rw[Oper.upon_value];go_wp2;go_end0
 exact⟨rfl,rfl⟩
end Go.Proofs.YthibodlojlkppaaGreatDoor

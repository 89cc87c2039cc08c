import Derived.Test.YthibodlojlkppaaGreatDoorZ06
import Derived.Lib.ItoaNum
set_option linter.all false
set_option maxRecDepth 100000
set_option maxHeartbeats 40000000
namespace Go.Proofs.YthibodlojlkppaaGreatDoor
open Go.RowKit
variable [DecidableEq K] [LawfulBEq Lk]
theorem aZ{a b:ByteArray}:bB a b=true↔a=b:=toList_inj
theorem cP{a b:ByteArray}(h:a≠b):bB a b=false:=by
 cases he:bB a b with
 | false=>rfl
 | true=>exact absurd (aZ.1 he) h
theorem lB{l:List ByteArray}{x:ByteArray}:gL l x=true↔x∈l:=by
 unfold gL;rw[List.any_eq_true];constructor
 . rintro⟨y,h1,h2⟩;rw[<-aZ.1 h2];exact h1
 . intro h;exact⟨x,h,aZ.2 rfl⟩
def dC:Ex->Nat
 | ⟨.inl _,_⟩=>1
 | ⟨.inr (.inl _),_⟩=>1
 | ⟨.inr (.inr (.inl _)),_⟩=>1
 | ⟨.inr (.inr (.inr (.inl _))),s'⟩=>dC (s' false)+dC (s' true)+1
 | ⟨.inr (.inr (.inr (.inr _))),s'⟩=>dC (s' none)+dC (s' (some false))+dC (s' (some true))+1
def uK(n:ByteArray):Ex->Prop
 | ⟨.inl _,_⟩=>False
 | ⟨.inr (.inl _),_⟩=>False
 | ⟨.inr (.inr (.inl t)),_⟩=>n=t
 | ⟨.inr (.inr (.inr (.inl _))),s'⟩=>uK n (s' false)\/uK n (s' true)
 | ⟨.inr (.inr (.inr (.inr _))),s'⟩=>uK n (s' none)\/uK n (s' (some false))\/uK n (s' (some true))
theorem fV(n:ByteArray):∀(e:Ex) (l:List ByteArray),n∈aL e l↔n∈l\/uK n e
 | ⟨.inl _,_⟩,l=>by simp[aL,uK,two,three]
 | ⟨.inr (.inl _),_⟩,l=>by simp[aL,uK,two,three]
 | ⟨.inr (.inr (.inl t)),_⟩,l=>by
  simp only[aL,uK,two,three];split
  . constructor
    . exact .inl
    . rintro (h|rfl)
      . exact h
      . exact lB.1 (by assumption)
  . simp
 | ⟨.inr (.inr (.inr (.inl _))),s'⟩,l=>by simp only[aL,uK,fV n (s' true),fV n (s' false),or_assoc,two,three]
 | ⟨.inr (.inr (.inr (.inr _))),s'⟩,l=>by simp only[aL,uK,fV n (s' (some true)),fV n (s' (some false)),fV n (s' none),or_assoc,two,three]
theorem dR:∀(e:Ex) (l:List ByteArray),(aL e l).length<=l.length+dC e
 | ⟨.inl _,_⟩,l=>by simp[aL,two,three]
 | ⟨.inr (.inl _),_⟩,l=>by simp[aL,two,three]
 | ⟨.inr (.inr (.inl t)),_⟩,l=>by simp only[aL,dC,two,three];split <;> simp
 | ⟨.inr (.inr (.inr (.inl _))),s'⟩,l=>by
  have h1:=dR (s' false) l;have h2:=dR (s' true) (aL (s' false) l);simp only[aL,dC,two,three];omega
 | ⟨.inr (.inr (.inr (.inr _))),s'⟩,l=>by
  have h1:=dR (s' none) l;have h2:=dR (s' (some false)) (aL (s' none) l);have h3:=dR (s' (some true)) (aL (s' (some false)) (aL (s' none) l));simp only[aL,dC,two,three];omega
def lX(toks:List Tok):List ByteArray:=toks.map Tok.text
theorem sZ{toks:List Tok}{a:Nat}(h:tx toks a≠⟨#[]⟩):tx toks a∈lX toks/\a<toks.length:=by
 unfold tx at h ⊢;cases ht:toks[a]? with
 | none=>rw[ht] at h;exact absurd rfl h
 | some t=>
  obtain⟨hl,he⟩:=List.getElem?_eq_some_iff.1 ht;refine⟨?_,hl⟩;simp only[Option.map_some,Option.getD_some];exact List.mem_map.2 ⟨t,List.mem_of_getElem? ht,rfl⟩
theorem kI{toks:List Tok}{a:Nat}{x:UInt8}{l:List UInt8}(h:cC toks a (x::l)=true):a<toks.length:=(sZ (fun e=>by rw[cC,e] at h;simp at h)).2
theorem xJ{t:ByteArray}(h:bR t=true):t≠⟨#[]⟩:=by rintro rfl;exact absurd h (by decide)
theorem GL{toks:List Tok}{a:Nat}{x:Ex}(h:fR (tx toks a)=some x):a<toks.length/\dC x=1/\∀n,uK n x->n∈lX toks/\bR n=true:=by
 have hne:tx toks a≠⟨#[]⟩:=fun e=>by
  rw[e] at h;have h1:iZ ⟨#[]⟩=false:=by decide
  have h2:bR ⟨#[]⟩=false:=by decide
  unfold fR at h;rw[if_neg (by simp),if_neg (by simp[h1]),if_neg (by simp[h2])] at h;cases h
 obtain⟨hw,hl⟩:=sZ hne;refine⟨hl,?_⟩;unfold fR at h;split at h
 . cases h;exact⟨rfl,fun n hn=>hn.elim⟩
 . split at h
   . cases h;exact⟨rfl,fun n hn=>hn.elim⟩
   . split at h
     . rename_i hn
       cases h;exact⟨rfl,fun n hn'=>by cases hn';exact⟨hw,hn⟩⟩
     . cases h
structure OY (toks:List Tok) (a b s:Nat) (acc:ByteArray->Prop) (x:Ex):Prop where
 ab:a<=b
 le:a<=toks.length->b<=toks.length
 size:dC x+a<=s+b
 words:∀n,uK n x->acc n\/n∈lX toks/\bR n=true
abbrev Pd:ByteArray->Prop:=fun _=>False
theorem aW{p:Jk}{k:Nat->Ex->Jk}{b:Nat}{x:Ex}(h:mO p k=some (b,some x)):∃c y,p=some (c,some y)/\k c y=some (b,some x):=by
 match p,h with
 | some (c,some y),h=>exact⟨c,y,rfl,h⟩
theorem jR(toks:List Tok):∀(f tag nest a:Nat) (acc:Ex) (b:Nat) (x:Ex),PX toks f tag nest a acc=some (b,some x)->(tag<4->OY toks a b 0 Pd x)/\(4<=tag->OY toks a b (dC acc) (fun n=>uK n acc) x)
 | 0,_,_,_,_,_,_,h=>by simp[PX] at h
 | f+1,0,nest,a,acc,b,x,h=>by
  simp only[PX] at h;obtain⟨c,y,h1,h2⟩:=aW h;have q1:=(jR toks f 1 nest a _ c y h1).1 (by omega);refine⟨fun _=>?_,fun x=>by omega⟩;split at h2
  . rename_i ht
    have hl:=kI ht;obtain⟨d,z,h3,h4⟩:=aW h2;have q2:=(jR toks f 1 nest (c+1) _ d z h3).1 (by omega);cases h4;have:=q1.ab;have:=q2.ab;have:=q1.size;have:=q2.size
    refine⟨by omega,fun _=>q2.le (by omega),by simp only[dC,two,three];omega,fun n hn=>?_⟩;rcases hn with hn|hn
    . exact q1.words n hn
    . exact q2.words n hn
  . cases h2;exact q1
 | f+1,1,nest,a,acc,b,x,h=>by
  simp only[PX] at h;obtain⟨c,y,h1,h2⟩:=aW h;have q1:=(jR toks f 2 nest a _ c y h1).1 (by omega);have q2:=(jR toks f 4 nest c _ b x h2).2 (by omega);have:=q1.ab;have:=q2.ab;have:=q1.size;have:=q2.size
  exact⟨fun _=>⟨by omega,fun h=>q2.le (q1.le h),by omega,fun n hn=>(q2.words n hn).elim (q1.words n) .inr⟩,fun x=>by omega⟩
 | f+1,2,nest,a,acc,b,x,h=>by
  simp only[PX] at h;obtain⟨c,y,h1,h2⟩:=aW h;have q1:=(jR toks f 3 nest a _ c y h1).1 (by omega);have q2:=(jR toks f 5 nest c _ b x h2).2 (by omega);have:=q1.ab;have:=q2.ab;have:=q1.size;have:=q2.size
  exact⟨fun _=>⟨by omega,fun h=>q2.le (q1.le h),by omega,fun n hn=>(q2.words n hn).elim (q1.words n) .inr⟩,fun x=>by omega⟩
 | f+1,3,nest,a,acc,b,x,h=>by
  simp only[PX] at h;refine⟨fun _=>?_,fun x=>by omega⟩;split at h
  . split at h
    . cases h
    . obtain⟨c,y,h1,h2⟩:=aW h
      have q1:=(jR toks f 0 (nest+1) (a+1) _ c y h1).1 (by omega);split at h2
      . rename_i ht
        have hl:=kI ht;cases h2;have:=q1.ab;have:=q1.size
        exact⟨by omega,fun _=>by omega,by omega,q1.words⟩
      . cases h2
  . split at h
    . split at h
      . cases h
      . obtain⟨c,y,h1,h2⟩:=aW h
        have q1:=(jR toks f 0 (nest+1) (a+1) _ c y h1).1 (by omega);split at h2
        . obtain⟨d,z,h3,h4⟩:=aW h2
          have q2:=(jR toks f 0 (nest+1) (c+1) _ d z h3).1 (by omega);split at h4
          . obtain⟨e,u,h5,h6⟩:=aW h4
            have q3:=(jR toks f 0 (nest+1) (d+1) _ e u h5).1 (by omega);split at h6
            . rename_i ht
              have hl:=kI ht;cases h6;have:=q1.ab;have:=q1.size;have:=q2.ab;have:=q2.size;have:=q3.ab;have:=q3.size
              refine⟨by omega,fun _=>by omega,by simp only[dC,two,three];omega,fun n hn=>?_⟩;rcases hn with hn|hn|hn
              . exact q1.words n hn
              . exact q2.words n hn
              . exact q3.words n hn
            . cases h6
          . cases h4
        . cases h2
    . cases hlf:fR (tx toks a) with
      | none=>rw[hlf] at h;cases h
      | some v=>
       rw[hlf] at h;cases h;obtain⟨h1,h2,h3⟩:=GL hlf;exact⟨by omega,fun _=>by omega,by omega,fun n hn=>.inr (h3 n hn)⟩
 | f+1,4,nest,a,acc,b,x,h=>by
  simp only[PX] at h;refine⟨fun x=>by omega,fun _=>?_⟩;split at h
  . rename_i ht
    have hl:=kI ht;obtain⟨c,y,h1,h2⟩:=aW h;have q1:=(jR toks f 2 nest (a+1) _ c y h1).1 (by omega);have q2:=(jR toks f 4 nest c _ b x h2).2 (by omega);have:=q1.ab;have:=q2.ab;have:=q1.size;have h9:=q2.size
    simp only[dC,two,three] at h9;refine⟨by omega,fun _=>q2.le (q1.le (by omega)),by omega,fun n hn=>?_⟩;rcases q2.words n hn with (h3|h3)|h3
    . exact .inl h3
    . exact (q1.words n h3).elim (fun x=>x.elim) .inr
    . exact .inr h3
  . cases h
    exact⟨Nat.le_refl _,fun h=>h,by omega,fun n hn=>.inl hn⟩
 | f+1,tag+5,nest,a,acc,b,x,h=>by
  simp only[PX] at h;refine⟨fun x=>by omega,fun _=>?_⟩;split at h
  . rename_i ht
    have hl:=kI ht;obtain⟨c,y,h1,h2⟩:=aW h;have q1:=(jR toks f 3 nest (a+1) _ c y h1).1 (by omega);have q2:=(jR toks f 5 nest c _ b x h2).2 (by omega);have:=q1.ab;have:=q2.ab;have:=q1.size;have h9:=q2.size
    simp only[dC,two,three] at h9;refine⟨by omega,fun _=>q2.le (q1.le (by omega)),by omega,fun n hn=>?_⟩;rcases q2.words n hn with (h3|h3)|h3
    . exact .inl h3
    . exact (q1.words n h3).elim (fun x=>x.elim) .inr
    . exact .inr h3
  . cases h
    exact⟨Nat.le_refl _,fun h=>h,by omega,fun n hn=>.inl hn⟩
structure N1 (toks:List Tok) (i:cL):Prop where
 num:i.num<toks.length
 name:bR i.name=true/\i.name∈lX toks
 use:i.kind=0->i.ex=none
 let':i.kind≠0->(i.kind=1\/i.kind=2)/\(i.typ=eP\/i.typ=fS)/\∃e,i.ex=some e/\dC e<=toks.length/\∀n,uK n e->n∈lX toks/\bR n=true
theorem Ew{toks:List Tok}{a:Nat}(h:mM toks a=true):tx toks a=eP\/tx toks a=fS:=by
 have key:∀l:List UInt8,cC toks a l=true->tx toks a=⟨⟨l⟩⟩:=fun l hl=>by
  unfold cC at hl;have:=eq_of_beq hl
  apply ByteArray.ext;apply Array.toList_inj.1;simpa[ByteArray.toList_eq] using this
 unfold mM at h;rcases Bool.or_eq_true_iff.1 h with h1|h1
 . exact .inl (key _ h1)
 . exact .inr (key _ h1)
theorem DU{toks:List Tok}{k a b:Nat}{i:cL}(hk:k=1\/k=2)(h:rX toks k a=(b,some i)):N1 toks i/\a<b/\b<=toks.length:=by
 unfold rX at h;split at h
 . split at h
   . rename_i hn
     split at h
     . split at h
       . rename_i hty
         split at h
         . rename_i h4
           rcases he:iT toks (a+5) with ⟨c,r⟩
           rw[he] at h;cases r with
           | none=>cases h
           | some x=>
            simp only at h;split at h
            . rename_i h5
              cases h;have hP:PX toks 1700 0 0 (a+5) (.tru true)=some (c,some x):=by
               unfold iT at he;cases hp:PX toks 1700 0 0 (a+5) (.tru true) with
               | none=>rw[hp] at he;cases he
               | some q=>rw[hp] at he;exact congrArg some he
              have q:=(jR toks _ _ _ _ _ _ _ hP).1 (by omega);have hl:=kI h5;have hl4:=kI h4;obtain⟨w1,w2⟩:=sZ (xJ hn);have:=q.ab;have:=q.size
              exact⟨⟨w2,⟨hn,w1⟩,fun h0=>(by simp only at h0;omega),fun _=>⟨hk,Ew hty,x,rfl,by omega,fun n hin=>(q.words n hin).elim (fun x=>x.elim) id⟩⟩,by omega,by omega⟩
            . cases h
         . cases h
       . cases h
     . cases h
   . cases h
 . cases h
theorem GM{toks:List Tok}{a b:Nat}{i:cL}(h:gO toks a=(b,some i)):N1 toks i/\a<b/\b<=toks.length:=by
 unfold gO at h;split at h
 . unfold AC at h
   split at h
   . rename_i hn
     split at h
     . rename_i ht
       have hl:=kI ht;cases h;obtain⟨w1,w2⟩:=sZ (xJ hn);exact⟨⟨w2,⟨hn,w1⟩,fun _=>rfl,fun h0=>absurd rfl h0⟩,by omega,by omega⟩
     . cases h
   . cases h
 . split at h
   . obtain⟨x,y,z⟩:=DU (.inr rfl) h
     exact⟨x,by omega,z⟩
   . exact DU (.inl rfl) h
theorem xK{toks:List Tok}:∀(f a:Nat),(∀i∈(cJ toks f a).1,N1 toks i)/\(cJ toks f a).1.length<=f
 | 0,a=>by simp[cJ]
 | f+1,a=>by
  unfold cJ;split
  . simp
  . rcases h:gO toks a with ⟨b,r⟩
    cases r with
    | none=>simp
    | some i=>
     have hi:=GM h;obtain⟨h1,h2⟩:=xK (toks:=toks) f b;refine⟨fun j hj=>?_,by simp;exact h2⟩;rcases List.mem_cons.1 hj with rfl|hj
     . exact hi.1
     . exact h1 j hj
theorem dS(toks:List Tok):(∀i∈(bY toks).1,N1 toks i)/\(bY toks).1.length<=toks.length:=xK _ _
theorem uL:∀(l:List It) (k j:Nat) (i:It),l[k]? = some i->j<5->(l.flatMap aP)[k*5+j]? = (aP i)[j]?
 | [],k,j,i,h,_=>by simp at h
 | a::r,0,j,i,h,hj=>by
  simp at h;subst h;rw[List.flatMap_cons,List.getElem?_append_left (by simp[aP];omega)];simp
 | a::r,k+1,j,i,h,hj=>by
  simp at h;rw[List.flatMap_cons,List.getElem?_append_right (by simp[aP];omega)];have:=uL r k j i h hj
  rw[<-this];congr 1;simp[aP];omega
def KO(nm:ByteArray)(i:It):Bool:=!(i.kind==0)&&(i.name.toList==nm.toList)
def iR(nm:ByteArray)(items:List It):List It:=items.filter (KO nm)
theorem rC(nm:ByteArray)(l:List It)(i:It):iR nm (l ++ [i])=iR nm l++(if KO nm i then [i] else []):=by
 unfold iR;rw[List.filter_append];congr 1;cases h:KO nm i <;> simp[h]
theorem CC(nm:ByteArray)(l:List It):(iR nm l).length<=l.length:=List.length_filter_le _ _
structure NX (nm:ByteArray) (items:List It) (ao:Option Addr) (c:Nat) (fault:Value) (w wr:World) (k:Nat) (v:Value):Prop where
 bl:Below w.heap.size w wr
 pr:wr.heap[w.heap.size]? = some (.cells #[.slice ao items.length c,fault] 87)
 own:wr.ownsRow (w.heap.size+1) 137 5 v (iR nm (items.take k)).length ((iR nm (items.take k)).flatMap aP)
theorem NX.lt{nm:ByteArray}{items:List It}{ao:Option Addr}{c:Nat}{fault:Value}{w wr:World}{k:Nat}{v:Value}(h:NX nm items ao c fault w wr k v):w.heap.size<wr.heap.size:=aB h.pr
theorem NX.shape{nm:ByteArray}{items:List It}{ao:Option Addr}{c:Nat}{fault:Value}{w wr:World}{k:Nat}{v:Value}(h:NX nm items ao c fault w wr k v):∃ao m c,v = .slice ao m c:=by
 obtain⟨_,⟨h,_⟩|⟨g,c,_,h,_⟩⟩:=h.own
 . exact⟨none,0,0,h⟩
 . exact⟨_,_,_,h⟩
theorem NX.cell{nm:ByteArray}{items:List It}{ao:Option Addr}{c g:Nat}{fault:Value}{w wr:World}{k':Nat}{v:Value}(h:NX nm items ao c fault w wr k' v){cur:Array Value}(hg:w.heap[g]? = some (.cells cur 137 (0,0)))(hc:cur.toList.take (items.length*5)=items.flatMap aP){k:Nat}{i:It}(hi:items[k]? = some i){j:Nat}{u:Value}(hj:(aP i)[j]? = some u) :
 wr.cell? ⟨g,k*5+j,none⟩=some u:=by
 have h1:=below_heap h.bl (aB hg) hg;have hj5:j<5:=by
  rcases Nat.lt_or_ge j 5 with h5|h5
  . exact h5
  . simp[aP,List.getElem?_eq_none (show [Value.int .i64 i.kind,.int .i64 i.num,.string i.name,.string i.typ,i.ex].length<=j by simpa using h5)] at hj
 have h2:=uL items k j i hi hj5;rw[hj] at h2;have h3:=cX hc h2;rw[aA h1,<-Array.getElem?_toList,h3]
theorem NX.alloc{nm:ByteArray}{items:List It}{ao:Option Addr}{c:Nat}{fault:Value}{w wr:World}{k:Nat}{v:Value}(h:NX nm items ao c fault w wr k v)(o:Obj):NX nm items ao c fault w (wr.alloc o) k v:=
 ⟨h.bl.alloc (Nat.le_of_lt h.lt) _,aC _ h.pr,h.own.alloc _⟩
theorem NX.skip{nm:ByteArray}{items:List It}{ao:Option Addr}{c:Nat}{fault:Value}{w wr:World}{k:Nat}{v:Value}(h:NX nm items ao c fault w wr k v){i:It}(hi:items[k]? = some i)(hn:KO nm i=false):NX nm items ao c fault w wr (k+1) v:=by
 have e:items.take (k+1)=items.take k ++ [i]:=by rw[List.take_add_one,hi];rfl
 refine⟨h.bl,h.pr,?_⟩;rw[e,rC,hn];simpa using h.own
theorem NX.put{nm:ByteArray}{items:List It}{ao:Option Addr}{c:Nat}{fault:Value}{w wr w':World}{k:Nat}{v v':Value}(h:NX nm items ao c fault w wr k v){i:It}(hi:items[k]? = some i)(hn:KO nm i=true)
 (hown:w'.ownsRow (w.heap.size+1) 137 5 v' ((iR nm (items.take k)).length+1) ((iR nm (items.take k)).flatMap aP++aP i)) (hg:wr.grownBy w' v.ownBlock):NX nm items ao c fault w w' (k+1) v':=by
 have e:items.take (k+1)=items.take k ++ [i]:=by rw[List.take_add_one,hi];rfl
 have hlt:=fun k hk=>(h.own.lt k hk).1;refine⟨h.bl.grown hg (Nat.le_of_lt h.lt) (fun k hk=>by have:=hlt k hk;omega),?_,?_⟩
 . exact (hg.block _ h.lt fun e=>by have:=hlt _ e.symm;omega).trans h.pr
 . rw[e,rC,hn]
   simpa using hown
theorem Ey(nm:ByteArray)(items:List It)(hn:items.length<=401)(hex:∀i∈items,i.ex = .nilIface\/∃T v,i.ex = .iface T v)(fault:Value)(ao:Option Addr)(c:Nat)(w:World)
 (hao:0<items.length->∃g cur,ao=some ⟨g,0,none⟩/\w.heap[g]? = some (.cells cur 137 (0,0))/\cur.toList.take (items.length*5)=items.flatMap aP) :
 Calls Tryz.prog 100 #[.agg #[.slice ao items.length c,fault],.string nm] w fun e w'=>∃v,e = .returned v/\w'.ownsRow (w.heap.size+1) 137 5 v (iR nm items).length ((iR nm items).flatMap aP)/\Below w.heap.size w w':=by
 obtain⟨i0,hi0,hz0,hz1,hz2⟩:=info_parts Tryz.infoItem;have k0:(w.alloc (.cells #[.slice ao items.length c,fault] 87)).cell? ⟨w.heap.size,0,none⟩=some (.slice ao items.length c):=aA (i:=0) (aI w _);have HAO:=hid hao;have HEX:=hid hex;have HE0:Hid (NX nm items ao c fault w (w.alloc (.cells #[.slice ao items.length c,fault] 87)) 0 (.slice none 0 0)):=hid
  ⟨(Below.refl _ _).alloc (Nat.le_refl _) _,aI _ _,World.ownsRow_nil _ _ _ _⟩
 clear hao hex;go_enter Tryz.func100,Tryz.ntmps100;go_wp2;go_loopg [5,11] items.length (fun f v v8 wr=>∃k,k+f=items.length/\v8 = .int .i64 (k:Nat)/\NX nm items ao c (fault) w wr k v)
 case atStart=>exact⟨0,by omega,rfl,HE0.out⟩
 case round=>
  clear HE0 k0;obtain⟨k,hk,rfl,hext⟩:=hrel;obtain⟨no,nm',nc,rfl⟩:=hext.shape;have HT:=hid hext;clear hext;by_cases hlt:k<items.length
  . obtain⟨g,cur,rfl,hg,hc⟩:=HAO.out (by omega)
    have hi:=List.getElem?_eq_getElem hlt;have hexi:=HEX.out items[k] (List.getElem_mem hlt);generalize hii:items[k]=i at hi hexi;obtain⟨ik,inum,inm,ity,iex⟩:=i;simp only at hexi;have z0:=HT.out.cell hg hc hi (j:=0) rfl;have z1:=HT.out.cell hg hc hi (j:=1) rfl;have z2:=HT.out.cell hg hc hi (j:=2) rfl;have z3:=HT.out.cell hg hc hi (j:=3) rfl;have z4:=HT.out.cell hg hc hi (j:=4) rfl;rw[Nat.add_zero] at z0;have hlt2:(k:Int)<(items.length:Int):=by omega
    have hkc:(0:Int)<=(k:Int):=by omega
    have HI:=hid hi;clear hg hc hi hii;have hown0:=HT.out.own;have HLEN:=hid (CC nm (items.take k));rcases hexi with rfl|⟨T,ue,rfl⟩
    all_goals
     cases h2:(ik==0) with
     | true=>
      have hi2:(ik:Int)=0:=by
       rw[beq_iff_eq] at h2;omega
      have hb2:((ik:Int)==0)=true:=by rw[beq_iff_eq];exact hi2
      have HN2:=hid h2;clear h2 hown0;go_wp2;go_roundg (items.length-(k+1))
      case rel=>exact⟨k+1,by omega,by go_num,(HT.out.alloc _).skip HI.out (by simp only[KO];rw[HN2.out];rfl)⟩
      case measure=>omega
     | false=>
      have hi2:¬((ik:Int)=0):=by
       rw[beq_eq_false_iff_ne] at h2;omega
      have hb2:((ik:Int)==0)=false:=by rw[beq_eq_false_iff_ne];exact hi2
      have HN2:=hid h2;clear h2;cases h3:(inm.toList==nm.toList) with
      | false=>
       have HN3:=hid h3;clear hown0;go_wp2;go_roundg (items.length-(k+1))
       case rel=>exact⟨k+1,by omega,by go_num,(HT.out.alloc _).skip HI.out (by simp only[KO];rw[HN2.out,HN3.out];rfl)⟩
       case measure=>omega
      | true=>
       have HN3:=hid h3;have HOB:=HT.out.lt;go_wp2_with (at_builtin;go_must (refine wpList_append_own _ rfl _ _ 85 rfl (w.heap.size+1) 137 i0 (.agg #[.int .i64 0,.int .i64 0,.string ⟨#[]⟩,.string ⟨#[]⟩,.nilIface]) 5 64 Tryz.underlying85 hi0 hz0 hz1 hz2 rfl (by decide) _ _ _ rfl ((hown0.alloc _).alloc _) ⟨_,0,none⟩ 1 1 [.int .i64 ik,.int .i64 inum,.string inm,.string ity,_] rfl rfl (oU _ _ (by simp) _ _ _ _ _ _) ?c2 ?c3 ?c4 ?c5 ?_))
       case c2=>exact⟨rfl,rfl,rfl,rfl,rfl⟩
       case c3=>have:=HLEN.out;simp only[List.length_take] at this;unfold maxLen;omega
       case c4=>have:=HLEN.out;simp only[List.length_take] at this;omega
       case c5=>first|omega|(simp;omega)
       intro v' w4 hown' hgrow _;have ht4:=((HT.out.alloc _).alloc _).put HI.out (by simp only[KO];rw[HN2.out,HN3.out];rfl) hown' hgrow;obtain⟨ao',m',c',rfl⟩:=ht4.shape;have HT4:=hid ht4;clear ht4 hown' hgrow hown0;go_wp2;go_roundg (items.length-(k+1))
       case rel=>exact⟨k+1,by omega,by go_num,HT4.out⟩
       case measure=>omega
  . have hke:k=items.length:=by omega
    subst hke;have hown:=HT.out.own;rw[List.take_length] at hown;have HO:=hid hown;have HBL:=hid HT.out.bl;clear hown;go_wp2;go_ret;exact⟨_,rfl,HO.out,HBL.out⟩
theorem Ez(nm:ByteArray)(its:List cL):iR nm (its.map cI)=(aU nm its).map cI:=by
 unfold iR aU;rw[List.filter_map];rfl
theorem CD(e:Ex):∃T v,fF e = .iface T v:=by refine Ex.ind (P:=fun e=>∃T v,fF e = .iface T v) ?_ ?_ ?_ ?_ ?_ e <;> intros <;> exact⟨_,_,rfl⟩
theorem nQ(i:cL):(cI i).ex = .nilIface\/∃T v,(cI i).ex = .iface T v:=by
 obtain⟨k,n,nm,ty,ex⟩:=i;cases ex with
 | none=>exact .inl rfl
 | some e=>exact .inr (CD e)
def TQ(W0:World)(B bs lb:Nat)(fm:Value)(st0:St V)(L0:aM)(w0:World)(st:St V)(L:aM)(w:World)(st1:St V)(lk1:List Lk)(its:List cL)(fl:Option Nat)(ao:Option Addr)(c:Nat)(w9:World):Prop:=
 ∃L',mZ W0 B bs lb fm st0 L0 w0 st L w st1 L' lk1 w9/\n5 L' w9 ao c its/\∃s:ByteArray,s.size<=400/\(its,fl)=bY (aN s)
section
variable {W0:World} {E:eF V} {B bs lb:Nat} {fm:Value} {st0 st st1:St V} {L0 L:aM} {w0 w:World} {lk lk1:List Lk} {nc:Bool} {its:List cL} {fl:Option Nat} {ao:Option Addr} {c:Nat}
theorem Row.below{O:Nat->Prop}{w w':World}{T:TypeId}{v:Value}{n:Nat}{xs:List Value}(h:Row O w T v n xs)(hb:Below w.heap.size w w'):Row O w' T v n xs:=h.next (FR.of_below (O:=O) hb) fun _ h=>.inl h
theorem TQ.below{w9 w':World}(h:TQ W0 B bs lb fm st0 L0 w0 st L w st1 lk1 its fl ao c w9)(hb:Below w9.heap.size w9 w'):TQ W0 B bs lb fm st0 L0 w0 st L w st1 lk1 its fl ao c w':=by
 obtain⟨L',h1,h2,h3⟩:=h;exact⟨L',h1.below hb,Row.below h2 hb,h3⟩
theorem TQ.set{w9:World}(h:TQ W0 B bs lb fm st0 L0 w0 st L w st1 lk1 its fl ao c w9)(h0:w0.heap.size<=w.heap.size)(h00:W0.heap.size<=w0.heap.size){vb:Nat}{cs:Array Value}(hb:w9.heap[vb]? = some (.cells cs 87))(h3:w.heap.size<=vb)(i:Nat)(u:Value):TQ W0 B bs lb fm st0 L0 w0 st L w st1 lk1 its fl ao c (w9.setCell ⟨vb,i,none⟩ u):=by
 obtain⟨L',h1,h2,h4⟩:=h;exact⟨L',⟨h1.n.box h3 i u,h1.s.box hb (Nat.le_trans h0 h3) h00 i u⟩,Row.boxR h2 (by decide) hb i u,h4⟩
theorem TQ.lift{wx w9:World}(hb:Below w.heap.size w wx)(h:TQ W0 B bs lb fm st0 L0 w0 st L wx st1 lk1 its fl ao c w9):TQ W0 B bs lb fm st0 L0 w0 st L w st1 lk1 its fl ao c w9:=by
 obtain⟨L',h1,h2,h3⟩:=h;exact⟨L',h1.lift hb,h2,h3⟩
end
structure iU (a W:World):Prop where
 h:W.heap=a.heap
 os:W.os=a.os
 tape:W.tape=a.tape
 output:W.output=a.output
theorem iU.below{a W:World}(h:iU a W):Below a.heap.size a W:=⟨h.os,h.tape,h.output,by rw[h.h];exact Nat.le_refl _,fun k _=>by rw[h.h]⟩
theorem iU.cell{a W:World}(h:iU a W){p:Addr}{v:Value}(hc:a.cell? p=some v):W.cell? p=some v:=by
 unfold World.cell? at hc ⊢;rw[h.1];exact hc
theorem iU.own{a W:World}(h:iU a W){B z n:Nat}{T:TypeId}{v:Value}{xs:List Value}(ho:a.ownsRow B T z v n xs):W.ownsRow B T z v n xs:=bJ ho fun g _=>by rw[h.1]
theorem bP(a:ByteArray)(l:List UInt8):bB a ⟨⟨l⟩⟩=(a.toList==l):=by
 have h:(⟨⟨l⟩⟩:ByteArray).toList=l:=by simp
 rw[bB,h]
theorem EA(l:List ByteArray)(x t:ByteArray)(i:Nat)(hi:l[i]? = some t):gL (l.take (i+1)) x=(gL (l.take i) x||bB t x):=by
 rw[List.take_add_one,hi];simp[gL]
theorem GN{w:World}{ga:Option Addr}{c:Nat}{l:List ByteArray}(hl:l.length<=1099511627776)(hc:∀(i:Nat) t,l[i]? = some t->∃g,ga=some ⟨g,0,none⟩/\w.cell? ⟨g,i,none⟩=some (.string t))(x:ByteArray) :
 Calls Tryz.prog 148 #[.slice ga l.length c,.string x] w fun e w'=>∃r:Int,e = .returned (.int .i64 r)/\decide (0<=r)=gL l x/\∃m,w'=w.drewN m:=by
 have HC:=hid hc;clear hc;go_enter Tryz.func148,Tryz.ntmps148;go_wp2;go_loopg [8] l.length (fun g vi wr=>∃(i m:Nat),g+i=l.length/\vi = .int .i64 (i:Nat)/\wr=w.drewN m/\gL (l.take i) x=false)
 case atStart=>exact⟨0,0,by omega,rfl,rfl,rfl⟩
 case round=>
  obtain⟨i,m,hg,rfl,hwr,hno⟩:=hrel;have HNO:=hid hno;clear hno;have hi0:(0:Int)<=(i:Int):=by omega
  by_cases hi:i<l.length
  . have hil:(i:Int)<(l.length:Int):=by omega
    obtain⟨t,ht⟩:∃t,l[i]? = some t:=⟨l[i],List.getElem?_eq_getElem hi⟩
    obtain⟨g0,rfl,hc1⟩:=HC.out i t ht;have hc2:wr.cell? ⟨g0,i,none⟩=some (.string t):=by rw[hwr];exact hc1
    have hc3:wr.drew.cell? ⟨g0,i,none⟩=some (.string t):=by rw[hwr];exact hc1
    have HWR:=hid hwr;have HST:=hid (EA l x t i ht);clear hwr hc1 ht;cases hq:(x.toList==t.toList) with
    | true=>
     have HQ:=hid hq;have hd:gL l x=true:=by
      have h1:gL (l.take (i+1)) x=true:=by
       rw[HST.out,show bB t x=true from aZ.2 (aZ.1 (show bB x t=true from hq)).symm];simp
      rw[lB] at h1 ⊢;exact List.mem_of_mem_take h1
     have HD:=hid hd;clear hd;go_wp2;go_ret;exact⟨i,rfl,by rw[HD.out];simp,m,HWR.out⟩
    | false=>
     have HQ:=hid hq;have HN2:=hid (show gL (l.take (i+1)) x=false by
      rw[HST.out,HNO.out,show bB t x=false from cP fun e=>by rw[e] at hq;exact absurd hq (by simp)];rfl)
     go_wp2;have HG:=hid hg;go_roundg (l.length-(i+1))
     all_goals first
      | (have:=HG.out;omega)
      | exact⟨i+1,m,by omega,by go_num,HWR.out,HN2.out⟩
      | exact⟨i+1,m+1,by omega,by go_num,by rw[HWR.out];rfl,HN2.out⟩
  . have hil:¬((i:Int)<(l.length:Int)):=by omega
    have HWR:=hid hwr;have HN2:=hid (show gL l x=false by have:=HNO.out;rwa[List.take_of_length_le (by omega)] at this);clear hwr;go_wp2;go_ret;exact⟨-1,rfl,by rw[HN2.out];decide,m,HWR.out⟩
theorem nA{w:World}{ga:Option Addr}{c:Nat}{l:List ByteArray}(hl:l.length<=1099511627776)(hc:∀(i:Nat) t,l[i]? = some t->∃g,ga=some ⟨g,0,none⟩/\w.cell? ⟨g,i,none⟩=some (.string t))(x:ByteArray) :
 Calls Tryz.prog 129 #[.slice ga l.length c,.string x] w fun e w'=>e = .returned (.bool (gL l x))/\∃m,w'=w.drewN m:=by
 have HX:=hid (GN hl hc x (c:=c));clear hc;go_enter Tryz.func129,Tryz.ntmps129;go_wp2_with fail
 refine HX.out.mono ?_;rintro e w1⟨r,rfl,hr,m,hm⟩;have HM:=hid hm;have HR:=hid hr;clear hm hr;go_wp2;go_ret;exact⟨by rw[<-HR.out];rfl,m,HM.out⟩
theorem decFrom_lt:∀(l:List UInt8) (acc n:Nat),Lib.decFrom acc l=some n->n<(acc+1)*10 ^ l.length
 | [],acc,n,h=>by simp[Lib.decFrom] at h;subst h;simp
 | c::l,acc,n,h=>by
  unfold Lib.decFrom at h;cases hd:Lib.digitVal c with
  | none=>rw[hd] at h;cases h
  | some d=>
   rw[hd] at h;have h1:=decFrom_lt l (acc*10+d) n h;have h2:d<10:=by unfold Lib.digitVal at hd;split at hd <;> simp at hd;omega
   have h3:(acc*10+d+1)*10 ^ l.length<=(acc+1)*10*10 ^ l.length:=Nat.mul_le_mul_right _ (by omega);rw[List.length_cons,Nat.pow_succ,Nat.mul_comm (10 ^ l.length) 10,<-Nat.mul_assoc];omega
theorem GO{p:UInt8->Bool}:∀(l:List UInt8) {x:UInt8},x∈l.takeWhile p->p x=true
 | c::l,x,h=>by
  rw[List.takeWhile_cons] at h;split at h
  . rename_i hc
    rcases List.mem_cons.1 h with rfl|h1
    . exact hc
    . exact GO l h1
  . simp at h
theorem DV{p:UInt8->Bool}:∀(l:List UInt8),(∀x∈l,p x=true)->l.takeWhile p=l
 | [],_=>rfl
 | c::l,h=>by rw[List.takeWhile_cons,if_pos (h c (by simp)),DV l fun x hx=>h x (List.mem_cons_of_mem _ hx)]
theorem GP{l:List UInt8}(h:jI aQ l=l.length):∀x∈l,aQ x.toNat=true:=by
 unfold jI at h;intro x hx;have:l.takeWhile (fun c=>aQ c.toNat)=l:=by
  have hp:=List.takeWhile_prefix (l:=l) fun c=>aQ c.toNat;exact hp.eq_of_length h
 rw[<-this] at hx;exact GO l hx
theorem nR{t:ByteArray}(h:iZ t=true):1<=t.size/\t.size<=9/\∀x∈t.data.toList,aQ x.toNat=true:=by
 unfold iZ at h;simp only[Bool.and_eq_true,decide_eq_true_eq,beq_iff_eq] at h;refine⟨h.1.1,h.1.2,GP ?_⟩;have:t.data.toList.length=t.size:=by simp
 omega
theorem xL{t:ByteArray}(h:iZ t=true):0<=dW t/\dW t<=999999999:=by
 obtain⟨h1,h2,h3⟩:=nR h;unfold dW;have hl:t.data.toList.length=t.size:=by simp
 generalize t.data.toList=l at *;cases l with
 | nil=>simp at hl;omega
 | cons c r=>
  have hc:=h3 c (by simp);unfold aQ at hc;simp only[Bool.and_eq_true,decide_eq_true_eq] at hc;have n1:(c==45)=false:=by rw[beq_eq_false_iff_ne];rintro rfl;exact absurd hc.1 (by decide)
  have n2:(c==43)=false:=by rw[beq_eq_false_iff_ne];rintro rfl;exact absurd hc.1 (by decide)
  simp only[Lib.atoi,n1,n2,Bool.false_eq_true,if_false,Lib.decNat,List.isEmpty_cons];cases hd:Lib.decFrom 0 (c::r) with
  | none=>simp
  | some n=>
   have:=decFrom_lt _ _ _ hd
   have h9:10 ^ (c::r).length<=10 ^ 9:=Nat.pow_le_pow_right (by omega) (by omega);simp;omega
theorem Bh{n:Nat}(h:n<10):aQ (UInt8.ofNat (48+n)).toNat=true:=by
 have e:(UInt8.ofNat (48+n)).toNat=48+n:=by simp;omega
 rw[e];unfold aQ;simp only[Bool.and_eq_true,decide_eq_true_eq];omega
theorem nB:∀(k n:Nat),n<10 ^ k->0<k->(Lib.decDigits n).length<=k/\1<=(Lib.decDigits n).length/\∀x∈Lib.decDigits n,aQ x.toNat=true
 | 0,n,_,h=>by omega
 | k+1,n,h,_=>by
  by_cases h10:n<10
  . rw[Lib.decDigits,dif_pos h10]
    refine⟨by simp,by simp,fun x hx=>?_⟩;rw[List.mem_singleton] at hx;subst hx;exact Bh h10
  . rw[Lib.decDigits,dif_neg h10]
    have hk:0<k:=by
     rcases Nat.eq_zero_or_pos k with rfl|h1
     . simp at h;omega
     . exact h1
    obtain⟨a,b,c⟩:=nB k (n / 10) (by rw[Nat.pow_succ] at h;omega) hk;refine⟨by simp;omega,by simp,fun x hx=>?_⟩;rcases List.mem_append.1 hx with h1|h1
    . exact c x h1
    . rw[List.mem_singleton] at h1;subst h1
      exact Bh (Nat.mod_lt _ (by omega))
theorem JJ{l:List UInt8}(h1:1<=l.length)(h2:l.length<=9)(h3:∀x∈l,aQ x.toNat=true):iZ ⟨l.toArray⟩=true:=by
 have hs:(⟨l.toArray⟩:ByteArray).size=l.length:=by simp[ByteArray.size]
 have ht:l.takeWhile (fun c=>aQ c.toNat)=l:=DV l h3;unfold iZ jI;simp only[hs,Bool.and_eq_true,decide_eq_true_eq,beq_iff_eq,List.toList_toArray,ht];exact⟨⟨h1,h2⟩,trivial⟩
theorem GQ{n:Int}(h0:0<=n)(h1:n<=999999999):iZ ⟨(Lib.itoa n).toArray⟩=true:=by
 obtain⟨m,rfl⟩:=Int.eq_ofNat_of_zero_le h0;have e:Lib.itoa (m:Int)=Lib.decDigits m:=by unfold Lib.itoa;rw[if_neg (by omega)];simp
 rw[e];obtain⟨a,b,c⟩:=nB 9 m (by omega) (by omega);exact JJ b a c
def dY:Ex->Prop
 | ⟨.inl n,_⟩=>0<=n/\n<=999999999
 | ⟨.inr (.inl _),_⟩=>True
 | ⟨.inr (.inr (.inl _)),_⟩=>True
 | ⟨.inr (.inr (.inr (.inl op))),s'⟩=>(op = [43]\/op = [42]\/op = [61,61])/\dY (s' false)/\dY (s' true)
 | ⟨.inr (.inr (.inr (.inr _))),s'⟩=>dY (s' none)/\dY (s' (some false))/\dY (s' (some true))
theorem CE{t:ByteArray}{x:Ex}(h:fR t=some x):dY x:=by
 unfold fR at h;split at h
 . cases h;trivial
 . split at h
   . rename_i hn
     cases h;exact xL hn
   . split at h
     . cases h;trivial
     . cases h
theorem dZ(toks:List Tok):∀(f tag nest a:Nat) (acc:Ex) (b:Nat) (x:Ex),PX toks f tag nest a acc=some (b,some x)->(4<=tag->dY acc)->dY x
 | 0,_,_,_,_,_,_,h,_=>by simp[PX] at h
 | f+1,0,nest,a,acc,b,x,h,_=>by
  simp only[PX] at h;obtain⟨c,y,h1,h2⟩:=aW h;have q1:=dZ toks f 1 nest a _ c y h1 (by omega);split at h2
  . obtain⟨d,z,h3,h4⟩:=aW h2
    have q2:=dZ toks f 1 nest (c+1) _ d z h3 (by omega);cases h4;exact⟨.inr (.inr rfl),q1,q2⟩
  . cases h2;exact q1
 | f+1,1,nest,a,acc,b,x,h,_=>by
  simp only[PX] at h;obtain⟨c,y,h1,h2⟩:=aW h;exact dZ toks f 4 nest c _ b x h2 fun _=>dZ toks f 2 nest a _ c y h1 (by omega)
 | f+1,2,nest,a,acc,b,x,h,_=>by
  simp only[PX] at h;obtain⟨c,y,h1,h2⟩:=aW h;exact dZ toks f 5 nest c _ b x h2 fun _=>dZ toks f 3 nest a _ c y h1 (by omega)
 | f+1,3,nest,a,acc,b,x,h,_=>by
  simp only[PX] at h;split at h
  . split at h
    . cases h
    . obtain⟨c,y,h1,h2⟩:=aW h
      have q1:=dZ toks f 0 (nest+1) (a+1) _ c y h1 (by omega);split at h2
      . cases h2;exact q1
      . cases h2
  . split at h
    . split at h
      . cases h
      . obtain⟨c,y,h1,h2⟩:=aW h
        have q1:=dZ toks f 0 (nest+1) (a+1) _ c y h1 (by omega);split at h2
        . obtain⟨d,z,h3,h4⟩:=aW h2
          have q2:=dZ toks f 0 (nest+1) (c+1) _ d z h3 (by omega);split at h4
          . obtain⟨e,u,h5,h6⟩:=aW h4
            have q3:=dZ toks f 0 (nest+1) (d+1) _ e u h5 (by omega);split at h6
            . cases h6;exact⟨q1,q2,q3⟩
            . cases h6
          . cases h4
        . cases h2
    . cases hlf:fR (tx toks a) with
      | none=>rw[hlf] at h;cases h
      | some v=>rw[hlf] at h;cases h;exact CE hlf
 | f+1,4,nest,a,acc,b,x,h,hacc=>by
  simp only[PX] at h;split at h
  . obtain⟨c,y,h1,h2⟩:=aW h
    exact dZ toks f 4 nest c _ b x h2 fun _=>⟨.inl rfl,hacc (by omega),dZ toks f 2 nest (a+1) _ c y h1 (by omega)⟩
  . cases h;exact hacc (by omega)
 | f+1,tag+5,nest,a,acc,b,x,h,hacc=>by
  simp only[PX] at h;split at h
  . obtain⟨c,y,h1,h2⟩:=aW h
    exact dZ toks f 5 nest c _ b x h2 fun _=>⟨.inr (.inl rfl),hacc (by omega),dZ toks f 3 nest (a+1) _ c y h1 (by omega)⟩
  . cases h;exact hacc (by omega)
theorem CF{toks:List Tok}{a b:Nat}{i:cL}(h:gO toks a=(b,some i)):∀e,i.ex=some e->dY e:=by
 have key:∀k a,rX toks k a=(b,some i)->∀e,i.ex=some e->dY e:=by
  intro k a h e hi;unfold rX at h;split at h
  . split at h
    . split at h
      . split at h
        . split at h
          . rcases he:iT toks (a+5) with ⟨c,r⟩
            rw[he] at h;cases r with
            | none=>cases h
            | some x=>
             simp only at h;split at h
             . cases h
               cases hi;refine dZ toks 1700 0 0 (a+5) (.tru true) c _ ?_ (by omega);unfold iT at he;cases hp:PX toks 1700 0 0 (a+5) (.tru true) with
               | none=>rw[hp] at he;cases he
               | some q=>rw[hp] at he;exact congrArg some he
             . cases h
          . cases h
        . cases h
      . cases h
    . cases h
  . cases h
 unfold gO at h;split at h
 . unfold AC at h
   split at h
   . split at h
     . cases h;intro e he;cases he
     . cases h
   . cases h
 . split at h
   . exact key _ _ h
   . exact key _ _ h
theorem uM{toks:List Tok}:∀i∈(bY toks).1,∀e,i.ex=some e->dY e:=by
 have key:∀(f a:Nat),∀i∈(cJ toks f a).1,∀e,i.ex=some e->dY e:=by
  intro f;induction f with
  | zero=>intro a i hi;simp[cJ] at hi
  | succ f ih=>
   intro a i hi;unfold cJ at hi;split at hi
   . simp at hi
   . rcases h:gO toks a with ⟨b,r⟩
     rw[h] at hi;cases r with
     | none=>simp at hi
     | some j=>
      rcases List.mem_cons.1 hi with rfl|hi
      . exact CF h
      . exact ih b i hi
 exact key _ _
def OZ(r:Option Int):Prop:=∀a,r=some a->0<=a/\a<=999999999
theorem DW{n:Int}(h0:0<=n):OZ (pD n):=by
 intro a ha;unfold pD at ha;split at ha
 . cases ha
 . cases ha;omega
theorem xM(b:Bool):0<=jN b/\jN b<=999999999:=by cases b <;> decide
theorem lC{M:ByteArray->Int}(hM:∀n,0<=M n/\M n<=999999999):∀(e:Ex),dY e->OZ (dO M e)
 | ⟨.inl n,_⟩,h=>fun a ha=>by cases ha;exact h
 | ⟨.inr (.inl b),_⟩,_=>fun a ha=>by cases ha;exact xM b
 | ⟨.inr (.inr (.inl t)),_⟩,_=>fun a ha=>by cases ha;exact hM t
 | ⟨.inr (.inr (.inr (.inl op))),s'⟩,⟨_,h1,h2⟩=>by
  have k1:=lC hM (s' false) h1;have k2:=lC hM (s' true) h2;unfold dO;cases hl:dO M (s' false) with
  | none=>intro a ha;simp at ha
  | some a=>
   cases hr:dO M (s' true) with
   | none=>intro a ha;simp at ha
   | some b=>
    have ha:=k1 a hl;have hb:=k2 b hr;simp only;split
    . exact DW (by omega)
    . split
      . exact DW (Int.mul_nonneg ha.1 hb.1)
      . intro c hc;cases hc;exact xM _
 | ⟨.inr (.inr (.inr (.inr _))),s'⟩,⟨h0,h1,h2⟩=>by
  have k1:=lC hM (s' (some false)) h1;have k2:=lC hM (s' (some true)) h2;unfold dO;cases hy:dO M (s' (some false)) with
  | none=>intro a ha;simp at ha
  | some a=>
   cases hn:dO M (s' (some true)) with
   | none=>intro a ha;simp at ha
   | some b=>
    cases hc:dO M (s' none) with
    | none=>intro a ha;simp at ha
    | some d=>
     have ha:=k1 a hy;have hb:=k2 b hn;intro z hz;simp only[Option.some.injEq] at hz;subst hz;split
     . exact ha
     . exact hb
theorem uN(v:ByteArray):0<=eN v/\eN v<=999999999:=by
 unfold eN;split
 . omega
 . split
   . exact xL (by assumption)
   . omega
theorem Bi{kd:ByteArray}{n:Int}(h0:0<=n)(h1:n<=999999999):gP (oL kd n)=true:=by
 unfold oL gP;split
 . split
   . have:bB oE oE=true:=aZ.2 rfl
     simp[this]
   . have:bB lQ lQ=true:=aZ.2 rfl
     simp[this]
 . simp[GQ h0 h1]

theorem Bj:(Tryz.prog.info? 9).map (fun i=>(i.zero,i.size,i.bytes))=some (some (.string ⟨#[]⟩),1,16):=by kernel_rfl
structure NM (w w':World) (rv rv':Value):Prop where
 env:w'.os=w.os/\w'.tape=w.tape/\w'.output=w.output
 size:w.heap.size<=w'.heap.size
 far:∀b,b<w.heap.size->rv.ownBlock≠some b->w'.heap[b]? = w.heap[b]?
 loc:∀g,rv'.ownBlock=some g->rv.ownBlock=some g\/w.heap.size<=g
theorem NM.refl(w:World)(rv:Value):NM w w rv rv:=⟨⟨rfl,rfl,rfl⟩,Nat.le_refl _,fun _ _ _=>rfl,fun _ h=>.inl h⟩
theorem NM.trans{w w1 w2:World}{r r1 r2:Value}(h:NM w w1 r r1)(k:NM w1 w2 r1 r2):NM w w2 r r2:=
 ⟨⟨k.env.1.trans h.env.1,k.env.2.1.trans h.env.2.1,k.env.2.2.trans h.env.2.2⟩,Nat.le_trans h.size k.size,fun b hb hn=>(k.far b (Nat.lt_of_lt_of_le hb h.size) fun e=>(h.loc b e).elim hn fun x=>by omega).trans (h.far b hb hn),fun g hg=>(k.loc g hg).elim (h.loc g) fun x=>.inr (Nat.le_trans h.size x)⟩
theorem NM.drewN{w:World}(rv:Value)(m:Nat):NM w (w.drewN m) rv rv:=⟨⟨rfl,rfl,rfl⟩,Nat.le_refl _,fun _ _ _=>rfl,fun _ h=>.inl h⟩
theorem NM.of_below{w w':World}(h:Below w.heap.size w w')(rv:Value):NM w w' rv rv:=⟨⟨h.os,h.tape,h.output⟩,h.size,fun b hb _=>h.block b hb,fun _ h=>.inl h⟩
def gH(x:Value)(e:Ex):Prop:=
 ∃(T:TypeId) (v u:Value) (F:FuncId),x = .iface T v/\(∀w,(method 414 T v "almanac/lang.names").run Tryz.prog w = .ok (F,u) w)/\(∀args w,(callFunc F args).run Tryz.prog w = .ok (.enter F args) w)/\Tryz.prog.inits.idxOf? F=none/\
  ∀(B:Nat) (l:List ByteArray) (rv:Value) (w:World),w.ownsRow B 9 1 rv l.length (l.map .string)->B<=w.heap.size->l.length+dC e<=100000->
   Calls Tryz.prog F #[u,rv] w fun e' w'=>∃rv',e' = .returned rv'/\w'.ownsRow B 9 1 rv' (aL e l).length ((aL e l).map .string)/\NM w w' rv rv'
theorem GR(n:Int)(w:World):(method 414 197 (.int .i64 n) "almanac/lang.names").run Tryz.prog w = .ok (244,(.int .i64 n)) w:=by kernel_rfl
theorem GS(args:Array Value)(w:World):(callFunc 244 args).run Tryz.prog w = .ok (.enter 244 args) w:=by kernel_rfl
theorem JK(n:Bool)(w:World):(method 414 290 (.bool n) "almanac/lang.names").run Tryz.prog w = .ok (257,(.bool n)) w:=by kernel_rfl
theorem JL(args:Array Value)(w:World):(callFunc 257 args).run Tryz.prog w = .ok (.enter 257 args) w:=by kernel_rfl
theorem Lq(n:ByteArray)(w:World):(method 414 291 (.string n) "almanac/lang.names").run Tryz.prog w = .ok (261,(.string n)) w:=by kernel_rfl
theorem Lr(args:Array Value)(w:World):(callFunc 261 args).run Tryz.prog w = .ok (.enter 261 args) w:=by kernel_rfl
theorem Ls(n:Value)(w:World):(method 414 271 n "almanac/lang.names").run Tryz.prog w = .ok (250,n) w:=by kernel_rfl
theorem Lt(args:Array Value)(w:World):(callFunc 250 args).run Tryz.prog w = .ok (.enter 250 args) w:=by kernel_rfl
theorem GT(n:Value)(w:World):(method 414 293 n "almanac/lang.names").run Tryz.prog w = .ok (265,n) w:=by kernel_rfl
theorem GU(args:Array Value)(w:World):(callFunc 265 args).run Tryz.prog w = .ok (.enter 265 args) w:=by kernel_rfl
theorem uO(n:Int):gH (.iface 197 (.int .i64 n)) (.num n):=by
 refine⟨_,_,_,_,rfl,GR _,GS,by kernel_rfl,fun B l rv w hown hB hs=>?_⟩;go_enter Tryz.func244,Tryz.ntmps244;go_wp2;go_ret;exact⟨rv,rfl,hown,NM.refl _ _⟩
theorem wU(b:Bool):gH (.iface 290 (.bool b)) (.tru b):=by
 refine⟨_,_,_,_,rfl,JK _,JL,by kernel_rfl,fun B l rv w hown hB hs=>?_⟩;go_enter Tryz.func257,Tryz.ntmps257;go_wp2;go_ret;exact⟨rv,rfl,hown,NM.refl _ _⟩
theorem gX{w:World}{B z n:Nat}{T:TypeId}{v:Value}{xs:List Value}(h:w.ownsRow B T z v n xs):∃ao c,v = .slice ao n c:=by
 obtain⟨_,⟨h1,h0⟩|⟨g,c,_,h1,_⟩⟩:=h
 . exact⟨none,0,by rw[h1,h0]⟩
 . exact⟨_,_,h1⟩
theorem Bk{w:World}{B c:Nat}{ao:Option Addr}{l:List ByteArray}(h:w.ownsRow B 9 1 (.slice ao l.length c) l.length (l.map .string)):∀(i:Nat) t,l[i]? = some t->∃g,ao=some ⟨g,0,none⟩/\w.cell? ⟨g,i,none⟩=some (.string t):=by
 intro i t hi;have hlt:=(List.getElem?_eq_some_iff.1 hi).1;obtain⟨_,⟨h1,h0⟩|⟨g,c',cur,h1,h2,h3⟩⟩:=id h
 . omega
 . simp only[Value.slice.injEq] at h1
   obtain⟨rfl,_,rfl⟩:=h1;refine⟨g,rfl,?_⟩;rw[h.cellAt i (by omega),List.getElem?_map,hi];rfl
theorem zT(t:ByteArray):gH (.iface 291 (.string t)) (.nam t):=by
 refine⟨_,_,_,_,rfl,Lq _,Lr,by kernel_rfl,fun B l rv w hown hB hs=>?_⟩;obtain⟨ao,c,rfl⟩:=gX hown;obtain⟨i0,hi0,hz0,hz1,hz2⟩:=info_parts Bj;have HCO:=hid (nA (c:=c) (by omega) (Bk hown) t);have HOWN:=hid hown;have HS:=hid hs;clear hown hs;go_enter Tryz.func261,Tryz.ntmps261;go_wp2_with fail
 refine HCO.out.mono ?_;rintro e w1⟨rfl,m,rfl⟩;cases hm:gL l t with
 | true=>
  have HM:=hid (show aL (.nam t) l=l by simp[aL,hm,two,three]);clear hm;go_wp2;go_ret;rw[HM.out];exact⟨_,rfl,bJ HOWN.out fun _ _=>rfl,NM.drewN _ m⟩
 | false=>
  have HM:=hid (show aL (.nam t) l=l ++ [t] by simp[aL,hm,two,three]);have hown0:=bJ (w':=w.drewN m) HOWN.out fun _ _=>rfl;have hBd:B<=(w.drewN m).heap.size:=hB;have HW:=hid (NM.drewN (w:=w) (.slice ao l.length c) m);clear hm;generalize w.drewN m=wd at hown0 hBd HW ⊢;go_wp2_with (at_builtin;refine wpList_append_own_at _ rfl _ _ 25 rfl B 9 i0 (.string ⟨#[]⟩) 1 16 Tryz.underlying25 hi0 hz0 hz1 hz2 rfl (by decide) (.slice ao l.length c) l.length (l.map .string) (by rfl) (hown0.alloc _) ⟨wd.heap.size,0,none⟩ 1 1 [.string t] rfl rfl ?c1 ?c2 ?c3 ?c4 ?c5 ?_)
  all_goals first
   | (intro j u hj
      match j,hj with
      | 0,hj=>simp at hj;subst hj;exact World.cell?_alloc_at _ _ _ _ (by simp)
      | (n+1),hj=>simp at hj)
   | (intro u hu;simp at hu;subst hu;rfl)
   | (have:=HS.out;unfold maxLen;omega)
   | (have:=HS.out;omega)
   | (simp;omega)
   | skip
  all_goals
   intro v' w5 hown' hgrow hnil hloc;have hvb:∀q,v'.ownBlock=some q->(Value.slice ao l.length c).ownBlock=some q\/wd.heap.size<=q:=fun q hq=>by
    rcases hloc with h1|h1
    . exact .inl (h1.symm.trans hq)
    . refine .inr ?_
      have h3:=Option.some.inj (h1.symm.trans hq);rw[<-h3];omega
   have HN:=hid (show NM wd w5 (.slice ao l.length c) v' from ⟨⟨hgrow.os,hgrow.tape,hgrow.output⟩,by have:=hgrow.size;simp at this;omega,fun b hb hne=>(hgrow.block b (by simp;omega) (fun e=>hne e.symm)).trans (Below.heap_alloc _ _ _ hb),hvb⟩);have HO:=hid hown';obtain⟨a',c',rfl⟩:=gX hown';clear hown' hgrow hnil hloc hvb hown0;go_wp2;go_ret;rw[HM.out];exact⟨_,rfl,by simpa using HO.out,HW.out.trans HN.out⟩
theorem iU.nm{a W:World}(h:iU a W)(rv:Value):NM a W rv rv:=NM.of_below h.below rv
def N2(u:Value)(F:FuncId)(B:Nat)(rv:Value)(l':List ByteArray)(pb:Nat)(o:Obj)(w0:World)(rv0:Value)(A:World)(K:World->Value->Prop):Prop:=
 ∀W,iU A W->Calls Tryz.prog F #[u,rv] W fun e w1=>∃a1 b1,e = .returned (.slice a1 l'.length b1)/\w1.heap[pb]? = some o/\K w1 (.slice a1 l'.length b1)
theorem uP{u:Value}{F:FuncId}{e:Ex}{B:Nat}{l:List ByteArray}{rv:Value}{A:World}{pb:Nat}{o:Obj}{w0:World}{rv0:Value}{K:World->Value->Prop}
 (c:∀(B:Nat) (l:List ByteArray) (rv:Value) (w:World),w.ownsRow B 9 1 rv l.length (l.map .string)->B<=w.heap.size->l.length+dC e<=100000->
   Calls Tryz.prog F #[u,rv] w fun e' w'=>∃rv',e' = .returned rv'/\w'.ownsRow B 9 1 rv' (aL e l).length ((aL e l).map .string)/\NM w w' rv rv')
 (hown:A.ownsRow B 9 1 rv l.length (l.map .string)) (hB:B<=A.heap.size) (hs:l.length+dC e<=100000) (hpb:A.heap[pb]? = some o) (hne:rv.ownBlock≠some pb) (hN:NM w0 A rv0 rv)
 (hK:∀w1 rv1,w1.ownsRow B 9 1 rv1 (aL e l).length ((aL e l).map .string)->w1.heap[pb]? = some o->rv1.ownBlock≠some pb->B<=w1.heap.size->NM w0 w1 rv0 rv1->K w1 rv1):N2 u F B rv (aL e l) pb o w0 rv0 A K:=by
 intro W hW;refine (c B l rv W (hW.own hown) (by rw[hW.1];exact hB) hs).mono ?_;rintro e' w1⟨rv1,rfl,h1,h2⟩;obtain⟨a1,b1,rfl⟩:=gX h1;have hp:=aB hpb;have hp1:w1.heap[pb]? = some o:=(h2.far pb (by rw[hW.1];exact hp) hne).trans (by rw[hW.1];exact hpb);refine⟨a1,b1,rfl,hp1,hK _ _ h1 hp1 (fun e=>?_) (Nat.le_trans hB (by have:=h2.size;rw[hW.1] at this;exact this)) (hN.trans ((hW.nm rv).trans h2))⟩;rcases h2.loc pb e with h3|h3
 . exact hne h3
 . rw[hW.1] at h3;omega
theorem zU{op:List UInt8}{l r:Value}{f g:Ex}(hl:gH l f)(hr:gH r g):gH (lP ⟨⟨op⟩⟩ l r) (.pair op f g):=by
 obtain⟨T1,v1,u1,F1,rfl,m1,e1,_,c1⟩:=hl;obtain⟨T2,v2,u2,F2,rfl,m2,e2,_,c2⟩:=hr;refine⟨_,_,_,_,rfl,Ls _,Lt,by kernel_rfl,fun B l rv w hown hB hs=>?_⟩;have hlen:=dR f l;simp only[dC,two,three] at hs;have hbl:=cG w (.cells #[.string ⟨⟨op⟩⟩,.iface T1 v1,.iface T2 v2] 271);have hN:=aI w (.cells #[.string ⟨⟨op⟩⟩,.iface T1 v1,.iface T2 v2] 271);have hne:rv.ownBlock≠some w.heap.size:=fun e=>Nat.lt_irrefl _ (hown.lt _ e).2;have HC1:=hid (uP (w0:=w) (rv0:=rv) (K:=fun w1 rv1=>Hid (N2 u2 F2 B rv1 (aL g (aL f l)) w.heap.size (.cells #[.string ⟨⟨op⟩⟩,.iface T1 v1,.iface T2 v2] 271) w rv w1 fun w2 rv2=>Hid (w2.ownsRow B 9 1 rv2 (aL g (aL f l)).length ((aL g (aL f l)).map .string)/\NM w w2 rv rv2))) c1 (hown.alloc _) (Nat.le_trans hB hbl.size) (by omega) hN hne (NM.of_below hbl rv) fun w1 rv1 h1 h2 h3 h4 h5=>hid (uP c2 h1 h4 (by omega) h2 h3 h5 fun w2 rv2 k1 k2 k3 k4 k5=>hid ⟨k1,k5⟩));have k1:=aA (i:=1) hN;have k2:=aA (i:=2) hN;have k1':(w.alloc (.cells #[.string ⟨⟨op⟩⟩,.iface T1 v1,.iface T2 v2] 271)).drew.cell? ⟨w.heap.size,1,none⟩=_:=k1;have k2':(w.alloc (.cells #[.string ⟨⟨op⟩⟩,.iface T1 v1,.iface T2 v2] 271)).drew.cell? ⟨w.heap.size,2,none⟩=_:=k2;clear c1 c2 hbl hN hown hne hs hlen;go_enter Tryz.func250,Tryz.ntmps250;go_wp2_with fail
 go_region_with (first
  | (refine (HC1.out _ ?hd).mono ?_;(case hd=>exact⟨rfl,rfl,rfl,rfl⟩);rintro e w1⟨a1,b1,rfl,hN1,hk1⟩;have j1:=aA (i:=1) hN1;have j2:=aA (i:=2) hN1;have j1':w1.drew.cell? ⟨w.heap.size,1,none⟩=_:=j1;have j2':w1.drew.cell? ⟨w.heap.size,2,none⟩=_:=j2)
  | (refine (hk1.out _ ?hd).mono ?_;(case hd=>exact⟨rfl,rfl,rfl,rfl⟩);rintro e w2⟨a2,b2,rfl,hN2,hk2⟩))
 all_goals
  go_wp2;go_ret;exact⟨_,rfl,hk2.out.1,hk2.out.2⟩
theorem uQ{c y n:Value}{f g k:Ex}(hc:gH c f)(hy:gH y g)(hn:gH n k):gH (iF c y n) (.choice f g k):=by
 obtain⟨T1,v1,u1,F1,rfl,m1,e1,_,c1⟩:=hc;obtain⟨T2,v2,u2,F2,rfl,m2,e2,_,c2⟩:=hy;obtain⟨T3,v3,u3,F3,rfl,m3,e3,_,c3⟩:=hn;refine⟨_,_,_,_,rfl,GT _,GU,by kernel_rfl,fun B l rv w hown hB hs=>?_⟩;have hlen:=dR f l;have hlen2:=dR g (aL f l);simp only[dC,two,three] at hs;have hbl:=cG w (.cells #[.iface T1 v1,.iface T2 v2,.iface T3 v3] 293);have hN:=aI w (.cells #[.iface T1 v1,.iface T2 v2,.iface T3 v3] 293);have hne:rv.ownBlock≠some w.heap.size:=fun e=>Nat.lt_irrefl _ (hown.lt _ e).2;have HC1:=hid (uP (w0:=w) (rv0:=rv) (K:=fun w1 rv1=>Hid (N2 u2 F2 B rv1 (aL g (aL f l)) w.heap.size (.cells #[.iface T1 v1,.iface T2 v2,.iface T3 v3] 293) w rv w1 fun w2 rv2=>Hid (N2 u3 F3 B rv2 (aL k (aL g (aL f l))) w.heap.size (.cells #[.iface T1 v1,.iface T2 v2,.iface T3 v3] 293) w rv w2 fun w3 rv3=>Hid (w3.ownsRow B 9 1 rv3 (aL k (aL g (aL f l))).length ((aL k (aL g (aL f l))).map .string)/\NM w w3 rv rv3)))) c1 (hown.alloc _) (Nat.le_trans hB hbl.size) (by omega) hN hne (NM.of_below hbl rv) fun w1 rv1 h1 h2 h3 h4 h5=>hid (uP c2 h1 h4 (by omega) h2 h3 h5 fun w2 rv2 k1 k2 k3 k4 k5=>hid (uP c3 k1 k4 (by omega) k2 k3 k5 fun w3 rv3 q1 q2 q3 q4 q5=>hid ⟨q1,q5⟩)));have k0:=aA (i:=0) hN;have k1:=aA (i:=1) hN;have k2:=aA (i:=2) hN;have k0':(w.alloc (.cells #[.iface T1 v1,.iface T2 v2,.iface T3 v3] 293)).drew.cell? ⟨w.heap.size,0,none⟩=_:=k0;have k1':(w.alloc (.cells #[.iface T1 v1,.iface T2 v2,.iface T3 v3] 293)).drew.cell? ⟨w.heap.size,1,none⟩=_:=k1;have k2':(w.alloc (.cells #[.iface T1 v1,.iface T2 v2,.iface T3 v3] 293)).drew.cell? ⟨w.heap.size,2,none⟩=_:=k2;clear c1 c2 c3 hbl hN hown hne hs hlen hlen2;go_enter Tryz.func265,Tryz.ntmps265;go_wp2_with fail
 go_region_with (first
  | (refine (HC1.out _ ?hd).mono ?_;(case hd=>exact⟨rfl,rfl,rfl,rfl⟩);rintro e w1⟨a1,b1,rfl,hN1,hk1⟩;have j0:=aA (i:=0) hN1;have j1:=aA (i:=1) hN1;have j2:=aA (i:=2) hN1;have j0':w1.drew.cell? ⟨w.heap.size,0,none⟩=_:=j0;have j1':w1.drew.cell? ⟨w.heap.size,1,none⟩=_:=j1;have j2':w1.drew.cell? ⟨w.heap.size,2,none⟩=_:=j2)
  | (refine (hk1.out _ ?hd).mono ?_;(case hd=>exact⟨rfl,rfl,rfl,rfl⟩);rintro e w2⟨a2,b2,rfl,hN2,hk2⟩;have i0:=aA (i:=0) hN2;have i1:=aA (i:=1) hN2;have i2:=aA (i:=2) hN2;have i0':w2.drew.cell? ⟨w.heap.size,0,none⟩=_:=i0;have i1':w2.drew.cell? ⟨w.heap.size,1,none⟩=_:=i1;have i2':w2.drew.cell? ⟨w.heap.size,2,none⟩=_:=i2)
  | (refine (hk2.out _ ?hd).mono ?_;(case hd=>exact⟨rfl,rfl,rfl,rfl⟩);rintro e w3⟨a3,b3,rfl,hN3,hk3⟩))
 all_goals
  go_wp2;go_ret;exact⟨_,rfl,hk3.out.1,hk3.out.2⟩
theorem fW:∀e:Ex,gH (fF e) e
 | ⟨.inl n,_⟩=>uO n
 | ⟨.inr (.inl b),_⟩=>wU b
 | ⟨.inr (.inr (.inl t)),_⟩=>zT t
 | ⟨.inr (.inr (.inr (.inl op))),s'⟩=>zU (fW (s' false)) (fW (s' true))
 | ⟨.inr (.inr (.inr (.inr _))),s'⟩=>uQ (fW (s' none)) (fW (s' (some false))) (fW (s' (some true)))
theorem xN{e:Ex}(h:dC e<=100000)(w:World) :
 Calls Tryz.prog 102 #[fF e] w fun e' w'=>∃ao c,e' = .returned (.slice ao (aL e []).length c)/\w'.ownsRow w.heap.size 9 1 (.slice ao (aL e []).length c) (aL e []).length ((aL e []).map .string)/\Below w.heap.size w w':=by
 obtain⟨T,v,u,F,hx,m1,e1,_,c1⟩:=fW e;rw[hx];have HC:=hid (c1 w.heap.size [] (.slice none 0 0) w (World.ownsRow_nil _ _ _ _) (Nat.le_refl _) (by simpa using h));clear c1 hx;obtain⟨l,hl⟩:∃l,l=aL e []:=⟨_,rfl⟩
 rw[<-hl] at HC ⊢;clear hl;go_enter Tryz.func102,Tryz.ntmps102;go_wp2_with fail
 refine HC.out.mono ?_;rintro e' w1⟨rv,rfl,hown,hnm⟩;obtain⟨a,b,rfl⟩:=gX hown;have HO:=hid hown;have HN:=hid hnm;clear hown hnm;go_wp2;go_ret;exact⟨a,b,rfl,HO.out,HN.out.env.1,HN.out.env.2.1,HN.out.env.2.2,HN.out.size,fun k hk=>HN.out.far k hk (by simp[Value.ownBlock])⟩
theorem lY(i:cL):∀(l:List cL) (acc:List ByteArray),bS (l ++ [i]) acc=(if i.kind==0 && !gL (bS l acc) i.name then bS l acc ++ [i.name] else bS l acc)
 | [],acc=>by
  simp only[List.nil_append,bS];first|rfl|(split <;> simp_all)
 | a::l,acc=>by
  simp only[List.cons_append,bS];split
  . exact lY i l _
  . exact lY i l _
theorem nS:∀(l:List cL) (acc:List ByteArray),(bS l acc).length<=acc.length+l.length
 | [],acc=>by simp[bS]
 | a::l,acc=>by
  simp only[bS];split
  . have:=nS l (acc ++ [a.name]);simp at this ⊢;omega
  . have:=nS l acc;simp at this ⊢;omega
theorem EB(w:World)(b:Nat)(hb:b=w.heap.size)(x:Value)(T:TypeId):∀j u,[x][j]? = some u->(w.alloc (.cells #[x] T)).cell? ((⟨b,0,none⟩:Addr).add j)=some u:=by
 intro j u hj;match j,hj with
 | 0,hj=>simp at hj;subst hj;subst hb;exact World.cell?_alloc_at _ _ _ _ (by simp)
 | (n+1),hj=>simp at hj
structure UX (its:List cL) (ao:Option Addr) (c:Nat) (fault:Value) (w wr:World) (k:Nat) (v:Value):Prop where
 bl:Below w.heap.size w wr
 pr:wr.heap[w.heap.size]? = some (.cells #[.slice ao its.length c,fault] 87)
 own:wr.ownsRow (w.heap.size+1) 9 1 v (bS (its.take k) []).length ((bS (its.take k) []).map .string)
theorem UX.lt{its:List cL}{ao:Option Addr}{c:Nat}{fault:Value}{w wr:World}{k:Nat}{v:Value}(h:UX its ao c fault w wr k v):w.heap.size<wr.heap.size:=aB h.pr
theorem UX.cell{its:List cL}{ao:Option Addr}{c g:Nat}{fault:Value}{w wr:World}{k':Nat}{v:Value}(h:UX its ao c fault w wr k' v){cur:Array Value}(hg:w.heap[g]? = some (.cells cur 137 (0,0)))(hc:cur.toList.take (its.length*5)=(its.map cI).flatMap aP){k:Nat}{i:It}(hi:(its.map cI)[k]? = some i){j:Nat}{u:Value}(hj:(aP i)[j]? = some u) :
 wr.cell? ⟨g,k*5+j,none⟩=some u:=by
 have h1:=below_heap h.bl (aB hg) hg;have hj5:j<5:=by
  rcases Nat.lt_or_ge j 5 with h5|h5
  . exact h5
  . simp[aP,List.getElem?_eq_none (show [Value.int .i64 i.kind,.int .i64 i.num,.string i.name,.string i.typ,i.ex].length<=j by simpa using h5)] at hj
 have h2:=uL (its.map cI) k j i hi hj5;rw[hj] at h2;have h3:=cX hc h2;rw[aA h1,<-Array.getElem?_toList,h3]
theorem UX.below{its:List cL}{ao:Option Addr}{c:Nat}{fault:Value}{w wr w':World}{k:Nat}{v:Value}(h:UX its ao c fault w wr k v)(hb:Below wr.heap.size wr w'):UX its ao c fault w w' k v:=
 ⟨aF h.bl hb,below_heap hb (aB h.pr) h.pr,bJ h.own fun g hg=>hb.block g (h.own.lt g hg).2⟩
theorem UX.skip{its:List cL}{ao:Option Addr}{c:Nat}{fault:Value}{w wr:World}{k:Nat}{v:Value}(h:UX its ao c fault w wr k v){i:cL}(hi:its[k]? = some i)(hn:(i.kind==0 && !gL (bS (its.take k) []) i.name)=false):UX its ao c fault w wr (k+1) v:=by
 have e:its.take (k+1)=its.take k ++ [i]:=by rw[List.take_add_one,hi];rfl
 refine⟨h.bl,h.pr,?_⟩;rw[e,lY,hn];exact h.own
theorem UX.put{its:List cL}{ao:Option Addr}{c:Nat}{fault:Value}{w wr w':World}{k:Nat}{v v':Value}(h:UX its ao c fault w wr k v){i:cL}(hi:its[k]? = some i)(hn:(i.kind==0 && !gL (bS (its.take k) []) i.name)=true)
 (hown:w'.ownsRow (w.heap.size+1) 9 1 v' ((bS (its.take k) []).length+1) ((bS (its.take k) []).map .string ++ [.string i.name])) (hg:wr.grownBy w' v.ownBlock):UX its ao c fault w w' (k+1) v':=by
 have e:its.take (k+1)=its.take k ++ [i]:=by rw[List.take_add_one,hi];rfl
 have hlt:=fun k hk=>(h.own.lt k hk).1;refine⟨h.bl.grown hg (Nat.le_of_lt h.lt) (fun k hk=>by have:=hlt k hk;omega),?_,?_⟩
 . exact (hg.block _ h.lt fun e=>by have:=hlt _ e.symm;omega).trans h.pr
 . rw[e,lY,hn]
   simpa using hown
theorem GV(its:List cL)(hn:its.length<=401)(fault:Value)(ao:Option Addr)(c:Nat)(w:World)
 (hao:0<its.length->∃g cur,ao=some ⟨g,0,none⟩/\w.heap[g]? = some (.cells cur 137 (0,0))/\cur.toList.take (its.length*5)=(its.map cI).flatMap aP) :
 Calls Tryz.prog 128 #[.agg #[.slice ao its.length c,fault]] w fun e w'=>∃ao' c',e = .returned (.slice ao' (bS its []).length c')/\w'.ownsRow (w.heap.size+1) 9 1 (.slice ao' (bS its []).length c') (bS its []).length ((bS its []).map .string)/\Below w.heap.size w w':=by
 obtain⟨i0,hi0,hz0,hz1,hz2⟩:=info_parts Bj;have k0:(w.alloc (.cells #[.slice ao its.length c,fault] 87)).cell? ⟨w.heap.size,0,none⟩=some (.slice ao its.length c):=aA (i:=0) (aI w _);have HAO:=hid hao;have HE0:Hid (UX its ao c fault w (w.alloc (.cells #[.slice ao its.length c,fault] 87)) 0 (.slice none 0 0)):=hid
  ⟨(Below.refl _ _).alloc (Nat.le_refl _) _,aI _ _,World.ownsRow_nil _ _ _ _⟩
 clear hao;go_enter Tryz.func128,Tryz.ntmps128;go_wp2;go_loopg [3,9] its.length (fun f v v8 wr=>∃k,k+f=its.length/\v8 = .int .i64 (k:Nat)/\UX its ao c fault w wr k v)
 case atStart=>exact⟨0,by omega,rfl,HE0.out⟩
 case round=>
  clear HE0 k0;obtain⟨k,hk,rfl,hext⟩:=hrel;obtain⟨no,nc,rfl⟩:=gX hext.own;have HT:=hid hext;clear hext;by_cases hlt:k<its.length
  . obtain⟨g,cur,rfl,hg,hc⟩:=HAO.out (by omega)
    have hi:=List.getElem?_eq_getElem hlt;generalize hii:its[k]=i at hi;have hi2:(its.map cI)[k]? = some (cI i):=by rw[List.getElem?_map,hi];rfl
    have hexi:=nQ i;obtain⟨ik,inum,inm,ity,iex⟩:=i;have z0:=HT.out.cell hg hc hi2 (j:=0) rfl;have z1:=HT.out.cell hg hc hi2 (j:=1) rfl;have z2:=HT.out.cell hg hc hi2 (j:=2) rfl;have z3:=HT.out.cell hg hc hi2 (j:=3) rfl;have z4:=HT.out.cell hg hc hi2 (j:=4) rfl;rw[Nat.add_zero] at z0;simp only[cI] at z0 z1 z2 z3 z4 hexi;obtain⟨ev,hev⟩:∃ev,ev=Ja iex:=⟨_,rfl⟩
    rw[<-hev] at z4 hexi;have hlt2:(k:Int)<(its.length:Int):=by omega
    have hkc:(0:Int)<=(k:Int):=by omega
    have HI:=hid hi;clear hg hc hi hii hi2 hev;have HLEN:=hid (show (bS (its.take k) []).length<=401 by have:=nS (its.take k) [];simp only[List.length_take,List.length_nil] at this;omega);rcases hexi with rfl|⟨T,ue,rfl⟩
    all_goals
     cases h2:(ik==0) with
     | false=>
      have hi3:¬((ik:Int)=0):=by
       rw[beq_eq_false_iff_ne] at h2;omega
      have hb2:((ik:Int)==0)=false:=by rw[beq_eq_false_iff_ne];exact hi3
      have HN2:=hid h2;clear h2;go_wp2;go_roundg (its.length-(k+1))
      case rel=>exact⟨k+1,by omega,by go_num,(HT.out.below (cG _ _)).skip HI.out (by simp only;rw[HN2.out];rfl)⟩
      case measure=>omega
     | true=>
      have hi3:((ik:Int)=0):=by
       rw[beq_iff_eq] at h2;omega
      have hb2:((ik:Int)==0)=true:=by rw[beq_iff_eq];exact hi3
      have HN2:=hid h2;have HOB:=HT.out.lt;clear h2;have HTA:=hid (fun o=>HT.out.below (cG wr o));have HCO:=hid (fun o=>nA (c:=nc) (w:=wr.alloc o) (by have:=HLEN.out;omega) (Bk (HTA.out o).own) inm);go_wp2_with fail
      refine (HCO.out _).mono ?_;rintro e w2⟨rfl,m,hm⟩;have HT2:=hid (show UX its _ c fault w w2 k _ by rw[hm];exact (HTA.out _).below (below_drewN _ m));have hz:w2.cell? ⟨wr.heap.size,2,none⟩=some (.string inm):=by rw[hm];exact aA (i:=2) (aI wr _)
      clear hm HTA HCO z0 z1 z2 z3 z4;cases h3:gL (bS (its.take k) []) inm with
      | true=>
       have HN3:=hid h3;clear h3;go_wp2;go_roundg (its.length-(k+1))
       case rel=>exact⟨k+1,by omega,by go_num,HT2.out.skip HI.out (by simp only;rw[HN2.out,HN3.out];rfl)⟩
       case measure=>omega
      | false=>
       have HN3:=hid h3;have hown0:=HT2.out.own;have HLT:=HT2.out.lt;clear h3;go_wp2_with (at_builtin;go_must (refine wpList_append_own _ rfl _ _ 25 rfl (w.heap.size+1) 9 i0 (.string ⟨#[]⟩) 1 16 Tryz.underlying25 hi0 hz0 hz1 hz2 rfl (by decide) _ _ _ rfl (hown0.alloc _) ⟨_,0,none⟩ 1 1 [.string inm] rfl rfl (EB _ _ (by simp) _ _) ?c2 ?c3 ?c4 ?c5 ?_))
       case c2=>first|rfl|(intro u hu;simp at hu;subst hu;rfl)
       case c3=>have:=HLEN.out;unfold maxLen;omega
       case c4=>have:=HLEN.out;omega
       case c5=>first|omega|(simp;omega)
       intro v' w4 hown' hgrow _;have ht4:=(HT2.out.below (cG _ _)).put HI.out (by simp only;rw[HN2.out,HN3.out];rfl) hown' hgrow;have HSH:=hid (gX hown');have HT4:=hid ht4;clear ht4 hown' hgrow hown0;obtain⟨ao',c',rfl⟩:=HSH.out;clear HSH;go_wp2;go_roundg (its.length-(k+1))
       case rel=>exact⟨k+1,by omega,by go_num,HT4.out⟩
       case measure=>omega
  . have hke:k=its.length:=by omega
    subst hke;have hown:=HT.out.own;rw[List.take_length] at hown;have HO:=hid hown;have HBL:=hid HT.out.bl;rw[List.take_length];clear hown;go_wp2;go_ret;exact⟨no,nc,rfl,HO.out,HBL.out⟩
end Go.Proofs.YthibodlojlkppaaGreatDoor
namespace Go.Proofs.YthibodlojlkppaaGreatDoor
variable [DecidableEq K] [LawfulBEq Lk]
section
variable {V:Type}
abbrev eV:=ByteArray->Option ByteArray
structure Spec (wp:K->Prog V) (lp:V) (F:eV) (a:K->V):Prop where
 fix:∀k,bV F a (wp k)=some (a k)
 cyc:∀k j,Lk.slot j∈qs F a (wp k)->Reach F a wp j k->a k=lp
 rank:∀k j,Lk.slot j∈qs F a (wp k)->rk j<rk k\/(k.kind=7/\j.kind=7)
structure Lu (wp:K->Prog V) (F:eV) (a:K->V) (U:List K) (Q:Nat):Prop where
 clo:∀k∈U,∀j,Lk.slot j∈qs F a (wp k)->j∈U
 len:∀k∈U,(qs F a (wp k)).length+2<=Q
 big:Q<=cD
 sz:∀k∈U,k.file.size<=cD/\k.name.size<=cD
 ssz:∀k∈U,∀f,Lk.src f∈qs F a (wp k)->f.size<=cD
structure Bl (a:K->V) (rev uses:Nat) (k:K) (m:bU V):Prop where
 v0:m.ver=none->m.val=none
 v1:∀v,m.ver=some v->v=rev
 v2:∀x,m.val=some x->x=a k
 us:m.used<=uses
structure Inv (F:eV) (a:K->V) (st:St V):Prop where
 files:st.files=F
 mem:∀k m,st.sl k=some m->Bl a st.rev st.uses k m
 kp:∀k,k∈st.kept↔∃m x,st.sl k=some m/\m.val=some x
 nd:st.kept.Nodup
def actB(st:St V)(k:K):Bool:=match st.sl k with|some m=>m.act|none=>false
def xO(st:St V)(k:K):Bool:=decide (k∈st.kept)
structure fL (X:K->Prop) (st st':St V):Prop where
 rev:st'.rev=st.rev
 files:st'.files=st.files
 slot:∀k m,st.sl k=some m->∃m',st'.sl k=some m'/\(¬X k->m'.act=m.act/\(m.act=true->m'=m))
 new:∀k,¬X k->st.sl k=none->∀m',st'.sl k=some m'->m'.act=false
 kept:∀k∈st.kept,k∈st'.kept
abbrev X0:K->Prop:=fun _=>False
theorem fL.refl(X:K->Prop)(st:St V):fL X st st:=
 ⟨rfl,rfl,fun k m h=>⟨m,h,fun _=>⟨rfl,fun _=>rfl⟩⟩,fun k _ h m' h'=>(by rw[h] at h';cases h'),fun _ h=>h⟩
theorem fL.trans{X:K->Prop}{st st1 st2:St V}(h:fL X st st1)(g:fL X st1 st2):fL X st st2:=by
 refine⟨g.rev.trans h.rev,g.files.trans h.files,fun k m x=>?_,fun k hX x m' y=>?_,fun k x=>g.kept k (h.kept k x)⟩
 . obtain⟨m1,e1,f1⟩:=h.slot k m x
   obtain⟨m2,e2,f2⟩:=g.slot k m1 e1;refine⟨m2,e2,fun hx=>?_⟩;obtain⟨a1,b1⟩:=f1 hx;obtain⟨a2,b2⟩:=f2 hx;exact⟨a2.trans a1,fun ha=>(b2 (a1.trans ha)).trans (b1 ha)⟩
 . cases h1:st1.sl k with
   | none=>exact g.new k hX h1 m' y
   | some m1=>
    obtain⟨m2,e2,f2⟩:=g.slot k m1 h1;have hm:=h.new k hX x m1 h1;rw[y] at e2;cases e2;exact (f2 hX).1.trans hm
theorem fL.weak{X Y:K->Prop}{st st':St V}(h:fL X st st')(hx:∀k,X k->Y k):fL Y st st':=
 ⟨h.rev,h.files,fun k m x=>let ⟨m',e,f⟩:=h.slot k m x;⟨m',e,fun n=>f fun y=>n (hx k y)⟩,fun k n=>h.new k fun y=>n (hx k y),h.kept⟩
theorem fL.actB{st st':St V}(h:fL X0 st st')(k:K):actB st' k=actB st k:=by
 unfold Go.Proofs.YthibodlojlkppaaGreatDoor.actB;cases h1:st.sl k with
 | none=>
  cases h2:st'.sl k with
  | none=>rfl
  | some m'=>exact h.new k id h1 m' h2
 | some m=>
  obtain⟨m',e,f⟩:=h.slot k m h1;rw[e];exact (f id).1
theorem fL.act{st st':St V}(h:fL X0 st st'){k:K}{m:bU V}(hk:st.sl k=some m)(ha:m.act=true):st'.sl k=some m:=by
 obtain⟨m',e,f⟩:=h.slot k m hk;rw[e,(f id).2 ha]
def Bm(U:List K)(st:St V):Nat:=U.countP fun k=>!xO st k
def s6(U:List K)(st:St V):Nat:=U.countP fun k=>!actB st k
def lD(U:List K)(st:St V):Nat:=st.began.length+(1+U.length)*Bm U st
def KB(U:List K)(st:St V):Nat:=st.kept.length+Bm U st
def US(M Q:Nat)(st:St V):Nat:=st.uses+Q*(M-st.began.length)
theorem fL.ina{st st':St V}(h:fL X0 st st')(U:List K):s6 U st'=s6 U st:=by
 unfold s6;congr 1;funext k;rw[h.actB]
section
variable {F:eV} {a:K->V} {st:St V}
theorem Inv.find(h:Inv F a st)(k:K):Inv F a (st.find k)/\fL X0 st (st.find k)/\(∃m,(st.find k).sl k=some m)/\(st.find k).began=st.began/\(st.find k).kept=st.kept/\(st.find k).uses=st.uses:=by
 unfold St.find;cases hk:st.sl k with
 | some m=>exact⟨h,fL.refl _ _,⟨m,hk⟩,rfl,rfl,rfl⟩
 | none=>
  have hkp:k∉st.kept:=fun hm=>by obtain⟨m,x,e,_⟩:=(h.kp k).1 hm;rw[hk] at e;cases e
  refine⟨⟨h.files,fun j m hj=>?_,fun j=>?_,h.nd⟩,⟨rfl,rfl,fun j m hj=>⟨m,?_,fun _=>⟨rfl,fun _=>rfl⟩⟩,fun j _ hj m' hm'=>?_,fun _ x=>x⟩,⟨p7,by simp[St.put]⟩,rfl,rfl,rfl⟩
  . by_cases hjk:j=k
    . subst hjk
      simp[St.put] at hj;subst hj;exact⟨fun _=>rfl,fun v hv=>by simp[p7] at hv,fun v hv=>by simp[p7] at hv,Nat.zero_le _⟩
    . simp[St.put,hjk] at hj
      exact h.mem j m hj
  . by_cases hjk:j=k
    . subst hjk
      constructor
      . intro hm;exact absurd hm hkp
      . rintro⟨m,x,e,f⟩
        simp[St.put] at e;subst e;simp[p7] at f
    . simp only[St.put,hjk,if_false]
      exact h.kp j
  . have:j≠k:=fun e1=>by rw[e1,hk] at hj;cases hj
    simp[St.put,this,hj]
  . by_cases hjk:j=k
    . subst hjk
      simp[St.put] at hm';subst hm';rfl
    . simp[St.put,hjk,hj] at hm'
theorem Inv.source(h:Inv F a st)(f:ByteArray):Inv F a (st.source f)/\fL X0 st (st.source f)/\(st.source f).began=st.began/\(st.source f).kept=st.kept/\(st.source f).uses=st.uses:=by
 unfold St.source;cases hf:st.src f with
 | some c=>exact⟨h,fL.refl _ _,rfl,rfl,rfl⟩
 | none=>exact⟨⟨h.files,h.mem,h.kp,h.nd⟩,⟨rfl,rfl,fun j m hj=>⟨m,hj,fun _=>⟨rfl,fun _=>rfl⟩⟩,fun j _ hj m' hm'=>(by simp[hj] at hm'),fun _ x=>x⟩,rfl,rfl,rfl⟩
theorem Bl.up{rev u u':Nat}{k:K}{m:bU V}(h:Bl a rev u k m)(hu:u<=u'):Bl a rev u' k m:=⟨h.v0,h.v1,h.v2,Nat.le_trans h.us hu⟩
theorem Inv.put(h:Inv F a st){k:K}{m m':bU V}(hk:st.sl k=some m)(hm:Bl a st.rev st.uses k m')(hv:m'.val.isSome=m.val.isSome):Inv F a (st.put k m'):=by
 refine⟨h.files,fun j n hj=>?_,fun j=>?_,h.nd⟩
 . by_cases hjk:j=k
   . subst hjk
     simp[St.put] at hj;subst hj;exact hm
   . simp[St.put,hjk] at hj
     exact h.mem j n hj
 . by_cases hjk:j=k
   . subst hjk
     refine (h.kp j).trans ?_;simp only[St.put,if_true,Option.some.injEq,hk];constructor
     . rintro⟨_,x,rfl,e⟩
       rw[e] at hv;obtain⟨y,hy⟩:=Option.isSome_iff_exists.1 hv;exact⟨m',y,rfl,hy⟩
     . rintro⟨_,x,rfl,e⟩
       rw[e] at hv;obtain⟨y,hy⟩:=Option.isSome_iff_exists.1 hv.symm;exact⟨m,y,rfl,hy⟩
   . simp only[St.put,hjk,if_false]
     exact h.kp j
theorem uR{k:K}{m:bU V}{j:K}(hj:j≠k):actB (st.put k m) j=actB st j:=by
 simp[actB,St.put,hj]
theorem fL.put{k:K}{m':bU V}:fL (· = k) st (st.put k m'):=by
 refine⟨rfl,rfl,fun j n hj=>?_,fun j hn hj n hn'=>?_,fun _ x=>x⟩
 . by_cases hjk:j=k
   . exact⟨m',by simp[St.put,hjk],fun x=>absurd hjk x⟩
   . exact⟨n,by simp[St.put,hjk,hj],fun _=>⟨rfl,fun _=>rfl⟩⟩
 . by_cases hjk:j=k
   . exact absurd hjk hn
   . simp[St.put,hjk,hj] at hn'
def qH(st:St V)(k:K):Prop:=∃m,st.sl k=some m/\m.used=st.uses/\m.ver=some st.rev/\k∈st.kept/\∀j n,j≠k->st.sl j=some n->n.used<st.uses
theorem Inv.use(h:Inv F a st){k:K}(hk:k∈st.kept)(hu:st.uses+1<j9):Inv F a (st.use k)/\fL (· = k) st (st.use k)/\(st.use k).began=st.began/\(st.use k).kept=st.kept/\(st.use k).uses=st.uses+1/\(∀m,st.sl k=some m->(st.use k).sl k=some {m with used:=st.uses+1})/\qH (st.use k) k:=by
 obtain⟨m,x,hm,hx⟩:=(h.kp k).1 hk;have hw:(st.uses+1) % j9=st.uses+1:=Nat.mod_eq_of_lt hu;have e:st.use k={st.put k {m with used:=st.uses+1} with uses:=st.uses+1}:=by
  simp[St.use,hm,hk,St.put,hw]
 have hmo:=h.mem k m hm;have hsl:∀j,(st.use k).sl j=if j=k then some {m with used:=st.uses+1} else st.sl j:=fun j=>by rw[e];rfl
 have h2:=fL.put (st:=st) (k:=k) (m':={m with used:=st.uses+1});have hver:m.ver=some st.rev:=by
  cases hv:m.ver with
  | none=>rw[hmo.v0 hv] at hx;cases hx
  | some v=>rw[hmo.v1 v hv]
 refine⟨⟨by rw[e];exact h.files,fun j n hj=>?_,fun j=>?_,by rw[e];exact h.nd⟩,by rw[e];exact⟨h2.rev,h2.files,h2.slot,h2.new,h2.kept⟩,by rw[e];rfl,by rw[e];rfl,by rw[e],fun n hn=>?_,⟨{m with used:=st.uses+1},by rw[hsl,if_pos rfl],by rw[e],by rw[e];exact hver,by rw[e];exact hk,fun j n hj hn=>?_⟩⟩
 . rw[hsl] at hj
   have h3:(st.use k).rev=st.rev/\(st.use k).uses=st.uses+1:=by rw[e];exact⟨rfl,rfl⟩
   rw[h3.1,h3.2];by_cases hjk:j=k
   . rw[if_pos hjk] at hj;cases hj
     subst hjk;exact⟨hmo.v0,hmo.v1,hmo.v2,Nat.le_refl _⟩
   . rw[if_neg hjk] at hj
     exact (h.mem j n hj).up (by omega)
 . have h3:(st.use k).kept=st.kept:=by rw[e];rfl
   rw[h3,hsl,h.kp j];by_cases hjk:j=k
   . subst hjk
     rw[if_pos rfl,hm];constructor
     . rintro⟨m1,y,h1,hy⟩;cases h1;exact⟨_,y,rfl,hy⟩
     . rintro⟨m1,y,h1,hy⟩;cases h1;exact⟨_,y,rfl,hy⟩
   . rw[if_neg hjk]
 . rw[hm] at hn;cases hn
   rw[hsl,if_pos rfl]
 . rw[hsl,if_neg hj] at hn
   have:=(h.mem j n hn).us
   rw[e];show n.used<st.uses+1;omega
end
end
end Go.Proofs.YthibodlojlkppaaGreatDoor

import Derived.Test.YthibodlojlkppaaGreatDoorZ17
import Derived.Lib.SliceRun
set_option linter.all false
set_option maxRecDepth 100000
set_option maxHeartbeats 40000000
namespace Go.Proofs.YthibodlojlkppaaGreatDoor
open Go.RowKit
variable [DecidableEq K] [LawfulBEq Lk]
section
variable {P:Ex->Prop} {toks:List Tok}
theorem fP(hleaf:∀a x,fR (tx toks a)=some x->P x)(hpair:∀op l r,(op = [43]\/op = [42]\/op = [61,61])->P l->P r->P (.pair op l r))(hch:∀c y n,P c->P y->P n->P (.choice c y n)) :
 ∀(f tag nest a:Nat) (acc:Ex) (b:Nat) (x:Ex),PX toks f tag nest a acc=some (b,some x)->(4<=tag->P acc)->P x
 | 0,_,_,_,_,_,_,h,_=>by simp[PX] at h
 | f+1,0,nest,a,acc,b,x,h,_=>by
  simp only[PX] at h;obtain⟨c,y,h1,h2⟩:=aW h;have q1:=fP hleaf hpair hch f 1 nest a _ c y h1 (by omega);split at h2
  . obtain⟨d,z,h3,h4⟩:=aW h2
    have q2:=fP hleaf hpair hch f 1 nest (c+1) _ d z h3 (by omega);cases h4;exact hpair _ _ _ (.inr (.inr rfl)) q1 q2
  . cases h2;exact q1
 | f+1,1,nest,a,acc,b,x,h,_=>by
  simp only[PX] at h;obtain⟨c,y,h1,h2⟩:=aW h;exact fP hleaf hpair hch f 4 nest c _ b x h2 fun _=>fP hleaf hpair hch f 2 nest a _ c y h1 (by omega)
 | f+1,2,nest,a,acc,b,x,h,_=>by
  simp only[PX] at h;obtain⟨c,y,h1,h2⟩:=aW h;exact fP hleaf hpair hch f 5 nest c _ b x h2 fun _=>fP hleaf hpair hch f 3 nest a _ c y h1 (by omega)
 | f+1,3,nest,a,acc,b,x,h,_=>by
  simp only[PX] at h;split at h
  . split at h
    . cases h
    . obtain⟨c,y,h1,h2⟩:=aW h
      have q1:=fP hleaf hpair hch f 0 (nest+1) (a+1) _ c y h1 (by omega);split at h2
      . cases h2;exact q1
      . cases h2
  . split at h
    . split at h
      . cases h
      . obtain⟨c,y,h1,h2⟩:=aW h
        have q1:=fP hleaf hpair hch f 0 (nest+1) (a+1) _ c y h1 (by omega);split at h2
        . obtain⟨d,z,h3,h4⟩:=aW h2
          have q2:=fP hleaf hpair hch f 0 (nest+1) (c+1) _ d z h3 (by omega);split at h4
          . obtain⟨e,u,h5,h6⟩:=aW h4
            have q3:=fP hleaf hpair hch f 0 (nest+1) (d+1) _ e u h5 (by omega);split at h6
            . cases h6;exact hch _ _ _ q1 q2 q3
            . cases h6
          . cases h4
        . cases h2
    . cases hlf:fR (tx toks a) with
      | none=>rw[hlf] at h;cases h
      | some v=>rw[hlf] at h;cases h;exact hleaf a _ hlf
 | f+1,4,nest,a,acc,b,x,h,hacc=>by
  simp only[PX] at h;split at h
  . obtain⟨c,y,h1,h2⟩:=aW h
    exact fP hleaf hpair hch f 4 nest c _ b x h2 fun _=>hpair _ _ _ (.inl rfl) (hacc (by omega)) (fP hleaf hpair hch f 2 nest (a+1) _ c y h1 (by omega))
  . cases h;exact hacc (by omega)
 | f+1,tag+5,nest,a,acc,b,x,h,hacc=>by
  simp only[PX] at h;split at h
  . obtain⟨c,y,h1,h2⟩:=aW h
    exact fP hleaf hpair hch f 5 nest c _ b x h2 fun _=>hpair _ _ _ (.inr (.inl rfl)) (hacc (by omega)) (fP hleaf hpair hch f 3 nest (a+1) _ c y h1 (by omega))
  . cases h;exact hacc (by omega)
theorem Fe(hx:∀a b x,iT toks a=(b,some x)->P x){a b:Nat}{i:cL}(h:gO toks a=(b,some i)):∀e,i.ex=some e->P e:=by
 have key:∀k a,rX toks k a=(b,some i)->∀e,i.ex=some e->P e:=by
  intro k a h e hi;unfold rX at h;split at h
  . split at h
    . split at h
      . split at h
        . split at h
          . rcases he:iT toks (a+5) with ⟨c,r⟩
            rw[he] at h;cases r with
            | none=>cases h
            | some x=>
             simp only at h;split at h
             . cases h
               cases hi;exact hx _ _ _ he
             . cases h
          . cases h
        . cases h
      . cases h
    . cases h
  . cases h
 unfold gO at h;split at h
 . unfold AC at h
   split at h
   . split at h
     . cases h;intro e he;cases he
     . cases h
   . cases h
 . split at h
   . exact key _ _ h
   . exact key _ _ h
theorem Ff(hleaf:∀a x,fR (tx toks a)=some x->P x)(hpair:∀op l r,(op = [43]\/op = [42]\/op = [61,61])->P l->P r->P (.pair op l r))(hch:∀c y n,P c->P y->P n->P (.choice c y n)):∀i∈(bY toks).1,∀e,i.ex=some e->P e:=by
 have hx:∀a b x,iT toks a=(b,some x)->P x:=fun a b x he=>by
  refine fP hleaf hpair hch 1700 0 0 a (.tru true) b _ ?_ (by omega);unfold iT at he;cases hp:PX toks 1700 0 0 a (.tru true) with
  | none=>rw[hp] at he;cases he
  | some q=>rw[hp] at he;exact congrArg some he
 have key:∀(f a:Nat),∀i∈(cJ toks f a).1,∀e,i.ex=some e->P e:=by
  intro f;induction f with
  | zero=>intro a i hi;simp[cJ] at hi
  | succ f ih=>
   intro a i hi;unfold cJ at hi;split at hi
   . simp at hi
   . rcases h:gO toks a with ⟨b,r⟩
     rw[h] at hi;cases r with
     | none=>simp at hi
     | some j=>
      rcases List.mem_cons.1 hi with rfl|hi
      . exact Fe hx h
      . exact ih b i hi
 exact key _ _
end
def pV(e:Ex):ByteArray:=e.fold (fun n=>⟨(Lib.itoa n).toArray⟩) (fun b=>⟨(Lib.formatBool b).toArray⟩) (fun t=>t) (fun op l r=>iM op l r) (fun c y n=>dM c y n)
def LW(e:Ex):Prop:=gZ (fF e) (pV e)/\(pV e).size<=410*dC e
theorem Fg{t:ByteArray}(ht:t.size<=400){x:Ex}(h:fR t=some x):LW x:=by
 have hz:=BM t ht;unfold fR at h;split at h
 . cases h
   refine⟨Ag _,?_⟩;show (⟨(Lib.formatBool (t.toList == [116,114,117,101])).toArray⟩:ByteArray).size<=410*1;generalize (t.toList == [116,114,117,101])=b;cases b <;> decide
 . split at h
   . rename_i hn
     cases h;have e:=(vM hn).2.2;unfold yV at hz;rw[if_pos hn] at hz;constructor
     . show gZ _ (⟨(Lib.itoa (dW t)).toArray⟩:ByteArray)
       rw[e];exact xC hn
     . show (⟨(Lib.itoa (dW t)).toArray⟩:ByteArray).size<=410*1
       rw[e];omega
   . split at h
     . cases h
       exact⟨BK t,by show t.size<=410*1;omega⟩
     . cases h
theorem Nj{s:ByteArray}(hs:s.size<=400)(a:Nat):(tx (aN s) a).size<=400:=by
 unfold tx;cases h:(aN s)[a]? with
 | none=>exact Nat.zero_le _
 | some t=>exact (nV hs h).1
theorem Il{s:ByteArray}(hs:s.size<=400):∀i∈(bY (aN s)).1,∀e,i.ex=some e->LW e:=by
 refine Ff (P:=LW) (fun a x h=>Fg (Nj hs a) h) (fun op l r hop hl hr=>?_) fun c y n hc hy hn=>?_
 . obtain⟨w1,z1⟩:=hl
   obtain⟨w2,z2⟩:=hr;refine⟨BL (op:=op) w1 w2,?_⟩;have:op.length<=2:=by rcases hop with rfl|rfl|rfl <;> decide
   show (iM op (pV l) (pV r)).size<=410*(dC l+dC r+1);rw[C5];omega
 . obtain⟨w1,z1⟩:=hc
   obtain⟨w2,z2⟩:=hy;obtain⟨w3,z3⟩:=hn;refine⟨xD w1 w2 w3,?_⟩;show (dM (pV c) (pV y) (pV n)).size<=410*(dC c+dC y+dC n+1);rw[Ah];omega
def oJ(i:cL):ByteArray:=
 if i.kind=0 then dV (cK i.num) ⟨#[58,117,115,101,32]⟩ i.name
 else dH (cK i.num) (if i.kind=1 then ⟨#[58,108,101,116,32]⟩ else ⟨#[58,112,117,98,32]⟩) i.name i.typ (match i.ex with|some e=>pV e|none=>bA)
theorem lH{t:ByteArray}(h:bR t=true):t.size<=8:=by
 unfold bR at h;simp only[Bool.and_eq_true,decide_eq_true_eq] at h;exact h.1.1.2
theorem Kc{s:ByteArray}(hs:s.size<=400):∀i∈(bY (aN s)).1,LB (cI i) (oJ i):=by
 intro i hi;have hk:=(dS (aN s)).1 i hi;have hlen:=(oF s hs).1.le;have hnum:i.num<=1000:=by have:=hk.num;omega
 have hn8:=lH hk.name.1;have hd:(cK i.num).size<=1001:=by have:=dU i.num;omega
 by_cases h0:i.kind=0
 . rw[show oJ i=dV (cK i.num) ⟨#[58,117,115,101,32]⟩ i.name from if_pos h0]
   refine⟨hnum,?_,.inl ⟨h0,?_,rfl⟩⟩
   . simp only[dV,ByteArray.size_append,dT]
     have:(⟨#[58,117,115,101,32]⟩:ByteArray).size=5:=rfl
     simp only[List.length_cons,List.length_nil];omega
   . show Ja i.ex=_
     rw[hk.use h0];rfl
 . obtain⟨h12,hty,e,he,hsz,_⟩:=hk.let' h0
   obtain⟨hw,hx⟩:=Il hs i hi e he;generalize hxe:pV e=x at hw hx;have hty4:i.typ.size<=4:=by rcases hty with h|h <;> rw[h] <;> decide
   have hb:(410*dC e)<=164410:=by omega
   have hex:(cI i).ex=fF e:=by
    show Ja i.ex=_;rw[he];rfl
   have hz:∀q:ByteArray,q.size=5->(dH (cK i.num) q i.name i.typ x).size<=200000:=fun q hq=>by
    simp only[dH,ByteArray.size_append,dT];simp only[List.length_cons,List.length_nil];omega
   have hl:oJ i=dH (cK i.num) (if i.kind=1 then ⟨#[58,108,101,116,32]⟩ else ⟨#[58,112,117,98,32]⟩) i.name i.typ x:=by
    unfold oJ;rw[if_neg h0,he];simp only[hxe]
   rcases h12 with h1|h2
   . rw[hl,if_pos h1]
     exact⟨hnum,hz _ rfl,.inr ⟨x,by rw[hex];exact hw,.inl ⟨h1,rfl⟩⟩⟩
   . rw[hl,if_neg (by omega)]
     exact⟨hnum,hz _ rfl,.inr ⟨x,by rw[hex];exact hw,.inr ⟨h2,rfl⟩⟩⟩
theorem BQ{s:ByteArray}(hs:s.size<=400){i:cL}(hi:i∈(bY (aN s)).1):LB (cI i) (oJ i):=Kc hs i hi
theorem Fh{s:ByteArray}(hs:s.size<=400){its:List cL}(h:its=(bY (aN s)).1):∀(k:Nat) (i:It) (x:ByteArray),(its.map cI)[k]? = some i->(its.map oJ)[k]? = some x->LB i x:=by
 intro k i x h1 h2;rw[List.getElem?_map] at h1 h2;cases hk:its[k]? with
 | none=>rw[hk] at h1;cases h1
 | some j=>
  rw[hk] at h1 h2;cases h1;cases h2;exact BQ hs (by rw[<-h];exact List.mem_of_getElem? hk)
def kT:V->ByteArray
 | .inr (.inr (.inr b))=>b
 | .inl l=>dI (l.map qS)
 | .inr (.inl (its,fl))=>yA (its.map oJ) fl
 | .inr (.inr (.inl l))=>⟨(Lib.join (l.map fun b=>b.data.toList) [32]).toArray⟩
theorem Nk(l:List UInt8):(⟨l.toArray⟩:ByteArray).size=l.length:=by simp[ByteArray.size]
theorem join_le{m:Nat}:∀(l:List (List UInt8)),(∀x∈l,x.length<=m)->(Lib.join l [32]).length<=l.length*(m+1)
 | [],_=>by simp[Lib.join,List.intercalate]
 | [x],h=>by
  have:=h x (by simp)
  simp[Lib.join,List.intercalate];omega
 | x::y::l,h=>by
  have h1:=h x (by simp);have h2:=join_le (y::l) fun z hz=>h z (List.mem_cons_of_mem _ hz);have e:Lib.join (x::y::l) [32]=x++([32]++Lib.join (y::l) [32]):=by simp[Lib.join,List.intercalate]
  rw[e];simp only[List.length_append,List.length_cons,List.length_nil] at h2 ⊢;rw[Nat.add_mul];omega
theorem rQ{x:List UInt8}(l:List (List UInt8))(h:x∈Lib.compact l):x∈l:=by
 unfold Lib.compact Lib.compactUpTo at h;obtain⟨j,hj,rfl⟩:=List.mem_map.1 h;have hl:j<l.length:=List.mem_range.1 (List.mem_filter.1 hj).1;have hl':j<l.toArray.size:=by simpa using hl
 rw[getElem!_pos l.toArray j hl'];simp
theorem yB{s:ByteArray}{x:ByteArray}(h:x∈iQ (bY (aN s)).1):x.data.toList.length<=8:=by
 unfold iQ at h;obtain⟨y,hy,rfl⟩:=List.mem_map.1 h;have h1:=rQ _ hy;rw[List.mem_mergeSort] at h1;unfold mP at h1;obtain⟨i,hi,rfl⟩:=List.mem_map.1 h1;have h2:=lH ((dS (aN s)).1 i (List.mem_filter.1 hi).1).name.1;simpa using h2
theorem Nl{O:Nat->Prop}{l:List ByteArray}{ao:Option Addr}{c:Nat}{w:World}(hr:Row O w 9 (.slice ao l.length c) l.length (l.map .string))(hl:l.length<=401)(h8:∀x∈l,x.data.toList.length<=8) :
 Calls Tryz.prog 42 #[.slice ao l.length c,.string ⟨#[32]⟩] w fun e w'=>e = .returned (.string (kT (.x l)))/\Below w.heap.size w w':=by
 unfold kT;by_cases h0:l = []
 . subst h0
   refine (Tryz.strings_Join_none ao c ⟨#[32]⟩ w).mono ?_;rintro e w'⟨rfl,rfl⟩;exact⟨rfl,Below.refl _ _⟩
 . have hpos:0<l.length:=List.length_pos_iff.2 h0
   have hcell:=nD hr;obtain⟨a1,c1,e1,hc,h2⟩:=hr;obtain⟨g,cur,h3,h4,h5,h6⟩:=h2 hpos;injection e1 with e1 e2 e3;rw[h3] at e1;subst e1 e3;have hJ:=join_le (m:=8) (l.map fun b=>b.data.toList) (fun x hx=>by
    obtain⟨y,hy,rfl⟩:=List.mem_map.1 hx;exact h8 y hy)
   rw[List.length_map] at hJ;refine (Tryz.strings_Join g 0 c l ⟨#[32]⟩ w (fun j x hj=>?_) (aB h5) (by omega) hc ?_).mono ?_
   . obtain⟨g',e',hh⟩:=hcell j x hj
     injection e' with e';injection e' with e';rw[e',Nat.zero_add];exact hh
   . have:(l.length*9)<=401*9:=Nat.mul_le_mul_right _ hl
     exact Nat.le_trans hJ (by omega)
   . rintro e w'⟨rfl,hb⟩
     exact⟨rfl,hb⟩
theorem mJ{W0 w:World}(h:PT W0.heap.size W0)(hb:Below W0.heap.size W0 w):PT w.heap.size w:=fun w' h'=>h w' (aF hb h')
abbrev KS(bs:Nat):Obj:=.cells #[.pointer (some ⟨bs,1,none⟩),.slice none 0 0] 109
theorem nG(bs:Nat)(w:World):Calls Tryz.prog 36 #[.pointer (some ⟨bs,1,none⟩)] w fun e w'=>e = .returned (.pointer (some ⟨w.heap.size,0,none⟩))/\w'=w.alloc (KS bs):=by
 go_enter Tryz.func36,Tryz.ntmps36;go_wp2;go_ret;exact⟨rfl,rfl⟩
section
variable {W0:World} {E:eF V} {bs:Nat} {fm:Value} {st st':St V} {L:aM} {w:World} {nc:Bool} {lk':List Lk}
theorem gA(hG:bN st L none bs fm w)(hM:FM W0 st.files L fm w):WS W0 w.heap.size bs w.heap.size fm st L (w.alloc (KS bs)) st L [] (w.alloc (KS bs)):=by
 have hb:=aG w (KS bs);have hn:¬L.own w.heap.size:=fun e=>by
  obtain⟨q,sm,bg,kv,arr,hx⟩:=hG;have:=hx.olt _ e;omega
 exact WS.start (hG.below hb) (hM.below hb) ⟨⟨.slice none 0 0,aI w (KS bs),World.ownsRow_nil _ _ _ _,fun g hg=>by simp[Value.ownBlock] at hg⟩,hn,by simp,fun l hl=>by simp at hl,Nat.zero_le _⟩ hM.low.size hM.low.size
structure jZ (W0:World) (bs:Nat) (fm:Value) (st:St V) (L:aM) (w:World) (st':St V) (w':World):Prop where
 ex:∃L',bN st' L' none bs fm w'/\FM W0 st'.files L' fm w'/\Next st st' L L' w w'
theorem gB{L':aM}{w':World}(h:mZ W0 w.heap.size bs w.heap.size fm st L (w.alloc (KS bs)) st L (w.alloc (KS bs)) st' L' lk' w'):jZ W0 bs fm st L w st' w':=
 ⟨L',h.s.e,h.s.m,h.n.next ((Next.refl st L w).below (aG w (KS bs))) (Nat.le_refl _) (Nat.le_refl _)⟩
theorem jZ.below{w1 w':World}(h:jZ W0 bs fm st L w st' w1)(hb:Below w1.heap.size w1 w'):jZ W0 bs fm st L w st' w':=by
 obtain⟨L',a,b,c⟩:=h.ex;exact⟨L',a.below hb,b.below hb,c.below hb⟩
theorem Kd(hE:dX W0 E bs fm)(hG:bN st L none bs fm w)(hM:FM W0 st.files L fm w){f nm b:ByteArray}(hm:cE E nc ⟨1,f,bA⟩ [] st=some (.ok (.s b,lk'),st')) :
 Calls Tryz.prog 21 #[ptr bs,.int .i64 1,.string f,.string nm] w fun e w'=>e = .returned (.string b)/\jZ W0 bs fm st L w st' w':=by
 have HK:=hid (GF hE (gA hG hM) hm);clear hE hG hM hm;go_enter Tryz.func21,Tryz.ntmps21;go_wp2_with fail
 refine (nG bs w).mono ?_;rintro e w1⟨rfl,rfl⟩;go_wp2_with fail
 refine HK.out.mono ?_;rintro e w2⟨rfl,hq⟩;have HQ:=hid hq;clear hq;go_wp2;go_ret;obtain⟨L',hg⟩:=HQ.out;exact⟨rfl,gB hg⟩
theorem Ke(hE:dX W0 E bs fm)(hG:bN st L none bs fm w)(hM:FM W0 st.files L fm w){f nm b:ByteArray}(hm:cE E nc ⟨5,f,nm⟩ [] st=some (.ok (.s b,lk'),st')) :
 Calls Tryz.prog 21 #[ptr bs,.int .i64 5,.string f,.string nm] w fun e w'=>e = .returned (.string b)/\jZ W0 bs fm st L w st' w':=by
 have HK:=hid (GG hE (gA hG hM) hm);clear hE hG hM hm;go_enter Tryz.func21,Tryz.ntmps21;go_wp2_with fail
 refine (nG bs w).mono ?_;rintro e w1⟨rfl,rfl⟩;go_wp2_with fail
 refine HK.out.mono ?_;rintro e w2⟨rfl,hq⟩;have HQ:=hid hq;clear hq;go_wp2;go_ret;obtain⟨L',hg⟩:=HQ.out;exact⟨rfl,gB hg⟩
theorem Kf(hE:dX W0 E bs fm)(hG:bN st L none bs fm w)(hM:FM W0 st.files L fm w){f nm b:ByteArray}(hm:cE E nc ⟨6,f,nm⟩ [] st=some (.ok (.s b,lk'),st')) :
 Calls Tryz.prog 21 #[ptr bs,.int .i64 6,.string f,.string nm] w fun e w'=>e = .returned (.string b)/\jZ W0 bs fm st L w st' w':=by
 have HK:=hid (GH hE (gA hG hM) hm);clear hE hG hM hm;go_enter Tryz.func21,Tryz.ntmps21;go_wp2_with fail
 refine (nG bs w).mono ?_;rintro e w1⟨rfl,rfl⟩;go_wp2_with fail
 refine HK.out.mono ?_;rintro e w2⟨rfl,hq⟩;have HQ:=hid hq;clear hq;go_wp2;go_ret;obtain⟨L',hg⟩:=HQ.out;exact⟨rfl,gB hg⟩
theorem Kg(hE:dX W0 E bs fm)(hG:bN st L none bs fm w)(hM:FM W0 st.files L fm w){f nm b:ByteArray}(hm:cE E nc ⟨7,f,nm⟩ [] st=some (.ok (.s b,lk'),st')) :
 Calls Tryz.prog 21 #[ptr bs,.int .i64 7,.string f,.string nm] w fun e w'=>e = .returned (.string b)/\jZ W0 bs fm st L w st' w':=by
 have HK:=hid (CA hE (gA hG hM) hm);clear hE hG hM hm;go_enter Tryz.func21,Tryz.ntmps21;go_wp2_with fail
 refine (nG bs w).mono ?_;rintro e w1⟨rfl,rfl⟩;go_wp2_with fail
 refine HK.out.mono ?_;rintro e w2⟨rfl,hq⟩;have HQ:=hid hq;clear hq;go_wp2;go_ret;obtain⟨L',hg⟩:=HQ.out;exact⟨rfl,gB hg⟩
theorem Kh(hE:dX W0 E bs fm)(hG:bN st L none bs fm w)(hM:FM W0 st.files L fm w){f nm b:ByteArray}(hm:cE E nc ⟨8,f,bA⟩ [] st=some (.ok (.s b,lk'),st')) :
 Calls Tryz.prog 21 #[ptr bs,.int .i64 8,.string f,.string nm] w fun e w'=>e = .returned (.string b)/\jZ W0 bs fm st L w st' w':=by
 have HK:=hid (JE hE (gA hG hM) hm);clear hE hG hM hm;go_enter Tryz.func21,Tryz.ntmps21;go_wp2_with fail
 refine (nG bs w).mono ?_;rintro e w1⟨rfl,rfl⟩;go_wp2_with fail
 refine HK.out.mono ?_;rintro e w2⟨rfl,hq⟩;have HQ:=hid hq;clear hq;go_wp2;go_ret;obtain⟨L',hg⟩:=HQ.out;exact⟨rfl,gB hg⟩
theorem Db{O:Nat->Prop}{l:List Tok}{s:ByteArray}{ao:Option Addr}{c:Nat}{w:World}(hr:Row O w 121 (.slice ao l.length c) l.length (aV l))(hs:s.size<=400)(hl:l=aN s)(hp:PT w.heap.size w) :
 Calls Tryz.prog 38 #[.slice ao l.length c] w fun e w'=>e = .returned (.string (dI (l.map qS)))/\Below w.heap.size w w':=by
 have hw:=oF s hs;rw[<-hl] at hw;have hsz:∀(i:Nat) (t:Tok),l[i]? = some t->t.text.size<=400/\t.line<=1000/\t.col<=1000:=fun i t ht=>nV hs (i:=i) (by rw[<-hl];exact ht);clear hl;obtain⟨a1,c1,e1,_,h2⟩:=hr;obtain⟨g,cur,h3,h4,h5,h6⟩:=h2 hw.1.pos;injection e1 with e1 e2 e3;rw[h3] at e1;subst e1;have h7:cur.toList.take (3*l.length)=aV l:=by rw[<-fO l];exact h6
 exact sM l hw.1.le hsz g c w ⟨cur,h5,h7⟩ hp
theorem Ki(hpt:PT W0.heap.size W0)(hE:dX W0 E bs fm)(hG:bN st L none bs fm w)(hM:FM W0 st.files L fm w){f nm:ByteArray}{l:List Tok}(hm:cE E nc ⟨2,f,bA⟩ [] st=some (.ok (.t l,lk'),st')) :
 Calls Tryz.prog 21 #[ptr bs,.int .i64 2,.string f,.string nm] w fun e w'=>e = .returned (.string (kT (.t l)))/\jZ W0 bs fm st L w st' w':=by
 have HK:=hid (zQ hE (gA hG hM) hm);have HP:=hid hpt;clear hE hG hM hm hpt;unfold kT;go_enter Tryz.func21,Tryz.ntmps21;go_wp2_with fail
 refine (nG bs w).mono ?_;rintro e w1⟨rfl,rfl⟩;go_wp2_with fail
 refine HK.out.mono ?_;rintro e w2⟨ao,c,rfl,L',hg,hr,s,hs,hl⟩;have HG:=hid hg;have HT:Hid (Calls Tryz.prog 38 #[.slice ao l.length c] w2 fun e w'=>e = .returned (.string (dI (l.map qS)))/\Below w2.heap.size w2 w'):=hid (Db hr hs hl (mJ HP.out hg.s.m.low));clear hg hr hl;go_wp2_with fail
 refine HT.out.mono ?_;rintro e w3⟨rfl,hb⟩;have HB:=hid hb;clear hb;go_wp2;go_ret;exact⟨rfl,(gB HG.out).below HB.out⟩
theorem Kj(hpt:PT W0.heap.size W0)(hE:dX W0 E bs fm)(hG:bN st L none bs fm w)(hM:FM W0 st.files L fm w){f nm:ByteArray}{its:List cL}{fl:Option Nat}(hm:cE E nc ⟨3,f,bA⟩ [] st=some (.ok (.r its fl,lk'),st')) :
 Calls Tryz.prog 21 #[ptr bs,.int .i64 3,.string f,.string nm] w fun e w'=>e = .returned (.string (kT (.r its fl)))/\jZ W0 bs fm st L w st' w':=by
 have HK:=hid (xG hE (gA hG hM) (by simp) (by have:=hM.low.size;simp;omega) hm);have HP:=hid hpt;clear hE hG hM hm hpt;unfold kT;obtain⟨z,hz⟩:∃z:Int,cU fl = .int .i64 z:=by cases fl <;> exact⟨_,rfl⟩
 have HZ:=hid hz;go_enter Tryz.func21,Tryz.ntmps21;go_wp2_with fail
 refine (nG bs w).mono ?_;rintro e w1⟨rfl,rfl⟩;go_wp2_with fail
 refine HK.out.mono ?_;rw[hz];clear hz;rintro e w2⟨ao,c,rfl,L',hg,hr,s,hs,hts⟩;have HG:=hid hg;have hl:=l9 hs hts;have HT:Hid (Calls Tryz.prog 40 #[.agg #[.slice ao its.length c,.int .i64 z]] w2 fun e w'=>e = .returned (.string (yA (its.map oJ) fl))/\Below w2.heap.size w2 w'):=hid (by
  have h:=Ai (its.map cI) (its.map oJ) (by simp) (Fh hs (by rw[<-hts])) (by simpa using hl) fl (fun b hb=>by
   have h1:=rL (oF s hs).1 w2 b (by rw[<-hts];exact hb);have h2:=(oF s hs).1.le;omega) ao c w2 (fun hp=>by
   have hp':0<its.length:=by simpa using hp
   obtain⟨g,cur,h1,h2,h3⟩:=pO hr hp';exact⟨g,cur,h1,h2,by simpa using h3⟩) (mJ HP.out hg.s.m.low)
  rw[HZ.out,List.length_map] at h;exact h)
 clear hg hr hts hl;go_wp2_with fail
 refine HT.out.mono ?_;rintro e w3⟨rfl,hb⟩;have HB:=hid hb;clear hb;go_wp2;go_ret;exact⟨rfl,(gB HG.out).below HB.out⟩
theorem Kk(hE:dX W0 E bs fm)(hG:bN st L none bs fm w)(hM:FM W0 st.files L fm w){f nm:ByteArray}{l:List ByteArray}(hm:cE E nc ⟨4,f,bA⟩ [] st=some (.ok (.x l,lk'),st')) :
 Calls Tryz.prog 21 #[ptr bs,.int .i64 4,.string f,.string nm] w fun e w'=>e = .returned (.string (kT (.x l)))/\jZ W0 bs fm st L w st' w':=by
 have HK:=hid (Bf hE (gA hG hM) hm);clear hE hG hM hm;go_enter Tryz.func21,Tryz.ntmps21;go_wp2_with fail
 refine (nG bs w).mono ?_;rintro e w1⟨rfl,rfl⟩;go_wp2_with fail
 refine HK.out.mono ?_;rintro e w2⟨ao,c,rfl,L',hg,hr,s,hs,hl⟩;have HG:=hid hg;have HT:=hid (Nl hr (by rw[hl];exact Nat.le_trans (u6 _) (l9 hs (fl:=(bY (aN s)).2) rfl)) (fun x hx=>yB (s:=s) (by rw[<-hl];exact hx)));clear hg hr hl;go_wp2_with fail
 refine HT.out.mono ?_;rintro e w3⟨rfl,hb⟩;have HB:=hid hb;clear hb;go_wp2;go_ret;exact⟨rfl,(gB HG.out).below HB.out⟩
end
section
variable {W0:World} {bs:Nat} {fm:Value} {st:St V} {L:aM} {w:World}
structure At (W0:World) (bs:Nat) (fm:Value) (st:St V) (L:aM) (w:World):Prop where
 e:bN st L none bs fm w
 m:FM W0 st.files L fm w
theorem At.below(h:At W0 bs fm st L w){w':World}(hb:Below w.heap.size w w'):At W0 bs fm st L w':=⟨h.e.below hb,h.m.below hb⟩
theorem At.next(h:At W0 bs fm st L w){st':St V}{L':aM}{w':World}(hE:bN st' L' none bs fm w')(hN:Next st st' L L' w w')(hf:st'.files=st.files):At W0 bs fm st' L' w':=⟨hE,by rw[hf];exact h.m.next hN⟩
theorem vQ{n:Nat}{st st':St V}(hd:eR n st st'){L:aM}{w w':World}(hf:FR L.own w w'):Next st st' L L w w':=by
 obtain⟨_,h2,h3,_⟩:=oY hd;exact⟨fun k hk=>⟨fun e=>hk ((h3 k).1 e),rfl⟩,fun f hf=>⟨by rw[h2];exact hf,rfl⟩,fun b hb=>.inl hb,hf⟩
theorem Kl(h:At W0 bs fm st L w)(kind:Int)(f nm:ByteArray)(hr:mA kind f nm=0){t:ByteArray}(ht:t.size<=1099511627776){st1:St V}
 (hw:∀w1,At W0 bs fm {st with began:=[]} L w1->Calls Tryz.prog 21 #[ptr bs,.int .i64 kind,.string f,.string nm] w1 fun e w'=>e = .returned (.string t)/\jZ W0 bs fm {st with began:=[]} L w1 st1 w') :
 Calls Tryz.prog 9 #[ptr bs,.int .i64 kind,.string f,.string nm] w fun e w'=>e = .returned (.tuple #[.string t,.int .i64 0])/\∃st2 L2,eR 40 st1 st2/\At W0 bs fm st2 L2 w':=by
 have HB:=hid (CW h.e);have HA:=hid h;have HC:=hid (fun W=>xZ kind f nm W);rw[hr] at HC;have HW:=hid hw;clear h hr hw;go_enter Tryz.func9,Tryz.ntmps9;go_wp2_with fail
 refine HB.out.mono ?_;rintro e w1⟨rfl,hh⟩;have H1:=hid (HA.out.next hh.out.1 hh.out.2 rfl);clear hh;go_wp2_with fail
 refine (HC.out w1).mono ?_;rintro e w2⟨rfl,rfl⟩;go_wp2_with fail
 refine (HW.out _ H1.out).mono ?_;rintro e w3⟨rfl,⟨L3,hE3,hM3,hN3⟩⟩;have H3:=hid (show At W0 bs fm st1 L3 w3 from ⟨hE3,hM3⟩);clear hE3 hM3 hN3;go_wp2_with fail
 refine (KR H3.out.e).mono ?_;rintro e w4⟨rfl,st2,hd,hE4,hF4⟩;have H4:=hid (show eR 40 st1 st2/\At W0 bs fm st2 L3 w4 from ⟨hd,H3.out.next hE4 (vQ hd hF4) (oY hd).1⟩);clear hd hE4 hF4;go_wp2_with fail
 refine (dJ t w4 ht).mono ?_;rintro e w5⟨rfl,hb⟩;have HB5:=hid hb;clear hb;go_wp2;go_ret2;exact⟨rfl,st2,L3,H4.out.1,H4.out.2.below HB5.out⟩
end
section
variable {F:eV} {v:ByteArray->ByteArray->ByteArray} {fs:List ByteArray}
theorem vR(n:Nat):(kE n).size<=n+1:=by
 have:kE n=cK n:=fM n
 rw[this];exact dU n
theorem BR:bA.size=0:=rfl
theorem BS(x:ByteArray):(fT bA x).size<=5:=by
 unfold fT;split
 . rename_i h
   have hp:0<fG x:=Nat.lt_of_le_of_lt (Nat.zero_le _) h;unfold fG at hp;split at hp
   . rename_i e;rw[aZ.1 e];decide
   . split at hp
     . rename_i e;rw[aZ.1 e];decide
     . split at hp
       . rename_i e;rw[aZ.1 e];decide
       . omega
 . rw[BR];omega
theorem Dc(f:ByteArray)(its:List cL)(i:cL):(lZ F v f its i).size<=10:=by
 unfold lZ;split
 . split <;> decide
 . split
   . decide
   . split
     . decide
     . have:=BS (v f i.name);omega
theorem yC(h:mN F fs)(f:ByteArray)(num:Nat)(word out:ByteArray)(hw:word.size<=10):(rD (dP F f) num word out).size<=out.size+3000:=by
 unfold rD;split
 . omega
 . split
   . omega
   . rename_i t ht
     have hz:=nV (h.txt f) ht;have h1:=vR t.line;have h2:=vR t.col;unfold tL;simp only[ByteArray.size_append,dT,List.length_cons,List.length_nil];omega
theorem vS(h:mN F fs)(f:ByteArray)(its:List cL):∀(l:List cL) (out:ByteArray),(kR F v f (dP F f) its l out).size<=out.size+l.length*3000
 | [],out=>by simp[kR]
 | i::r,out=>by
  unfold kR;have h1:=vS h f its r (rD (dP F f) i.num (lZ F v f its i) out);have h2:=yC h f i.num (lZ F v f its i) out (Dc f its i);simp only[List.length_cons];omega
theorem BT(h:mN F fs)(f:ByteArray):(pK F v f).size<=2000000:=by
 have h1:=h.its f;have h2:=vS (v:=v) h f (aO F f).1 (aO F f).1 bA;rw[BR] at h2;unfold pK;split
 . omega
 . rename_i b hb
   have h4:=yC h f b F7 (kR F v f (dP F f) (aO F f).1 (aO F f).1 bA) (by decide);omega
theorem Im{x:ByteArray}(hx:gP x=true):x.size<=400:=by
 unfold gP at hx;simp only[Bool.or_eq_true] at hx;rcases hx with (((((hx|hx)|hx)|hx)|hx)|hx)|hx
 . have:=(nR hx).2.1;omega
 all_goals rw[aZ.1 hx];decide
theorem Fj(f nm:ByteArray):(bK F f nm).size<=400:=by
 rcases Bq (F:=F) f nm with h|h|h|h <;> rw[h] <;> decide
theorem Fk(h:mN F fs){f:ByteArray}(hf:f.size<=400)(nm:ByteArray):(findF F f nm).size<=400:=by
 rcases h.find f nm with h1|h1|h1|h1
 . rw[h1];exact hf
 . rw[h1];decide
 . rw[h1];decide
 . exact h.sz _ h1
theorem BU(w:World)(h:mN F fs)(hv:jT F v){k:K}(hf:k.file.size<=400):(kT (bQ F v k)).size<=1099511627776:=by
 obtain⟨kd,f,nm⟩:=k;unfold bQ;simp only at hf ⊢;split
 . simp only[kT]
   split <;> decide
 split
 . unfold kT
   have h1:=vP ((dP F f).map qS) 3000 (fun s hs=>by
    obtain⟨t,ht,rfl⟩:=List.mem_map.1 hs;obtain⟨i,hi⟩:=List.getElem?_of_mem ht;have hz:=nV (h.txt f) hi;have h1:=dU t.line;have h2:=dU t.col;simp only[qS,ByteArray.size_append,dT,List.length_cons,List.length_nil];omega)
   have h2:=h.toks f;rw[List.length_map] at h1;have h3:(dP F f).length*3001<=401*3001:=Nat.mul_le_mul_right _ h2;simp only;omega
 split
 . unfold kT
   have h1:=vN ((aO F f).1.map oJ) 200000 (fun s hs=>by
    obtain⟨i,hi,rfl⟩:=List.mem_map.1 hs;exact (BQ (h.txt f) hi).2.1)
   rw[List.length_map] at h1;have h2:(aO F f).1.length*200000<=401*200000:=Nat.mul_le_mul_right _ (h.its f);simp only;cases hfl:(aO F f).2 with
   | none=>simp only[yA];omega
   | some b=>
    have h3:=h.fault w f b hfl;have h4:=dU b;have h5:=h.toks f;simp only[yA,ByteArray.size_append,dT,List.length_cons,List.length_nil];omega
 split
 . unfold kT
   have h1:=join_le (m:=8) ((uU F f).map fun b=>b.data.toList) (fun x hx=>by
    obtain⟨y,hy,rfl⟩:=List.mem_map.1 hx;exact yB (s:=(F f).getD bA) hy)
   rw[List.length_map] at h1;have h2:(uU F f).length<=401:=Nat.le_trans (u6 _) (h.its f);have h3:(uU F f).length*9<=401*9:=Nat.mul_le_mul_right _ h2;simp only;rw[Nk];omega
 split
 . have:=Fk h hf nm;simp only[kT];omega
 split
 . have:=Fj (F:=F) f nm;simp only[kT];omega
 split
 . have:=Im (x:=v f nm) (by rw[hv.eq];exact Br _ _ _)
   simp only[kT];omega
 . have:=BT (v:=v) h f;simp only[kT];omega
end
def qK(kind:Int)(f nm:ByteArray):K:=⟨kind.toNat,f,if 5<=kind/\kind<=7 then nm else bA⟩
section
variable {W0:World} {bs:Nat} {fm:Value} {st:St V} {L:aM} {w:World} {F:eV} {v:ByteArray->ByteArray->ByteArray} {fs:List ByteArray}
theorem Io(hpt:PT W0.heap.size W0){E:eF V}(hE:dX W0 E bs fm)(h:At W0 bs fm st L w){kind:Int}{f nm:ByteArray}(hr:mA kind f nm=0){nc:Bool}{lk':List Lk}{st':St V}(hm:cE E nc (qK kind f nm) [] st=some (.ok (bQ F v (qK kind f nm),lk'),st')) :
 Calls Tryz.prog 21 #[ptr bs,.int .i64 kind,.string f,.string nm] w fun e w'=>e = .returned (.string (kT (bQ F v (qK kind f nm))))/\jZ W0 bs fm st L w st' w':=by
 have hk:1<=kind/\kind<=8:=by
  unfold mA at hr;split at hr
  . omega
  . omega
 have h8:kind=1\/kind=2\/kind=3\/kind=4\/kind=5\/kind=6\/kind=7\/kind=8:=by omega
 rcases h8 with rfl|rfl|rfl|rfl|rfl|rfl|rfl|rfl
 . exact Kd hE h.e h.m hm
 . exact Ki hpt hE h.e h.m hm
 . exact Kj hpt hE h.e h.m hm
 . exact Kk hE h.e h.m hm
 . exact Ke hE h.e h.m hm
 . exact Kf hE h.e h.m hm
 . exact Kg hE h.e h.m hm
 . exact Kh hE h.e h.m hm
theorem yD{kind:Int}{f nm:ByteArray}(hr:mA kind f nm=0):(1<=kind/\kind<=8)/\f.size<=8/\(qK kind f nm).name.size<=8:=by
 unfold mA at hr;split at hr
 . omega
 rename_i h1;split at hr
 . omega
 rename_i h2;split at hr
 . omega
 rename_i h3;have hf:f.size<=8:=by
  cases hb:eM f with
  | false=>exact absurd hb h2
  | true=>
   unfold eM at hb;simp only[Bool.and_eq_true] at hb;exact lH hb.1.1
 refine⟨by omega,hf,?_⟩;show (if 5<=kind/\kind<=7 then nm else bA).size<=8;split
 . rename_i h4
   cases hb:bR nm with
   | false=>exact absurd ⟨h4,hb⟩ h3
   | true=>exact lH hb
 . exact Nat.zero_le _
theorem Ip{kind:Int}{f nm:ByteArray}(hk:1<=kind/\kind<=8):qK kind f nm∈o0 F fs f (qK kind f nm).name:=by
 rw[lG];have h8:kind=1\/kind=2\/kind=3\/kind=4\/kind=5\/kind=6\/kind=7\/kind=8:=by omega
 rcases h8 with rfl|rfl|rfl|rfl|rfl|rfl|rfl|rfl <;> simp[qK,dE]
structure Aj (W0:World) (bs:Nat) (fm:Value) (F:eV) (v:ByteArray->ByteArray->ByteArray) (n:Nat) (st:St V) (w:World):Prop where
 ex:∃L,At W0 bs fm st L w
 inv:Inv F (bQ F v) st
 idle:ER st
 beg:dQ st
 kept:st.kept.length<=40
 uses:st.uses<=n*6081550565377
structure D4 (W0:World) (F:eV) (v:ByteArray->ByteArray->ByteArray) (fs:List ByteArray):Prop where
 pt:PT W0.heap.size W0
 eng:∀(bs:Nat) (fm:Value) (n:Nat),sA W0 (pC wp (.s dA) n) bs fm
 ok:mN F fs
 vo:jT F v
theorem yE(st:St V):dQ {st with began:=[]}:=⟨Nat.zero_le _,fun k hk=>by simp at hk⟩
theorem Ot(hF:D4 W0 F v fs){n:Nat}(hn:n<3000000)(h:Aj W0 bs fm F v n st w){kind:Int}{f nm:ByteArray}(hr:mA kind f nm=0) :
 Calls Tryz.prog 9 #[ptr bs,.int .i64 kind,.string f,.string nm] w fun e w'=>e = .returned (.tuple #[.string (kT (bQ F v (qK kind f nm))),.int .i64 0])/\∃st',Aj W0 bs fm F v (n+1) st' w'/\qK kind f nm∈st'.kept:=by
 obtain⟨L,hA⟩:=h.ex;obtain⟨hk,hf8,hn8⟩:=yD hr;have hul:=D0 (F:=F) hF.ok f (qK kind f nm).name;have hS:=BI hF.vo (hF.ok.fault w);have hU:=Ic (v:=v) hF.ok w hF.vo (f0:=f) (n0:=(qK kind f nm).name) (by unfold cD;omega) (by unfold cD;omega);obtain⟨N,st1,hm,hq,hu⟩:=x5 (M:=5939014224) (nc:=true) hS hU (by decide) (Ip hk) h.inv h.idle (by have:=h.kept;unfold cD;omega) (by
  have h1:(1+(o0 F fs f (qK kind f nm).name).length)*(o0 F fs f (qK kind f nm).name).length<=(1+77064)*77064:=Nat.mul_le_mul (by omega) hul;omega) (by have:=h.uses;unfold j9;omega)
 have hE:dX W0 (pC wp (.s dA) N) bs fm:=⟨hF.eng bs fm N,kZ N⟩
 have hz:=BU (v:=v) w hF.ok hF.vo (k:=qK kind f nm) (by show f.size<=400;omega);refine (Kl hA kind f nm hr hz (st1:=st1) fun w1 h1=>Io hF.pt hE h1 hr hm).mono ?_;rintro e w'⟨rfl,st2,L2,hd,hA2⟩;have hK:=BE hd hq.inv;have hb:=pT (vH D2 N) hm (by show kind.toNat<=8;omega) (yE st);have hl:=hK.last _ hq.last (by decide);refine⟨rfl,st2,⟨⟨L2,hA2⟩,hK.inv,fun k=>(hK.act k).trans (hq.idle k),by unfold dQ;rw[hK.began];exact hb,hK.len,?_⟩,?_⟩
 . rw[hK.uses]
   have:=h.uses
   omega
 . obtain⟨m,_,_,_,h4,_⟩:=hl
   exact h4
end
theorem Km:(Tryz.prog.info? 99).map (fun i=>(i.zero,i.size,i.bytes))=some (some (.agg #[.int .i64 0,.string bA,.string bA]),3,40):=by kernel_rfl
theorem Fl{w:World}{ao:Option Addr}{n c:Nat}{xs:List Value}(hown:w.ownsRow 0 99 3 (.slice ao n c) n xs)(hn:n<=cD)(h1:∀u∈xs,u.oneCell'=true) :
 Calls Tryz.prog 83 #[.slice ao n c] w fun e w'=>∃a' c',e = .returned (.slice a' n c')/\w'.ownsRow w.heap.size 99 3 (.slice a' n c') n xs/\Below w.heap.size w w':=by
 unfold cD at hn;obtain⟨i0,hi0,hz0,hz1,hz2⟩:=info_parts Km;have q22:∀(w:World) (a:Option Addr) (n c n' c':Nat),(binOp .eql 59 (.slice a n c) (.slice none n' c')).run Tryz.prog w = .ok (.bool a.isNone) w:=fun w a n c n' c'=>Lib.run_eql_slice_nil w _ _ a n c n' c' Tryz.underlying59;by_cases hnil:ao=none
 . subst hnil
   have hn0:n=0/\c=0:=by
    obtain⟨_,⟨h,h0⟩|⟨g,c',_,h,_⟩⟩:=hown
    . injection h with _ _ h3;exact⟨h0,h3⟩
    . injection h with h3;cases h3
   obtain⟨rfl,rfl⟩:=hn0;have hx:xs = []:=by have:=hown.1;simpa using this
   subst hx;go_enter Tryz.func83,Tryz.ntmps83;go_wp2;go_ret;exact⟨none,0,rfl,World.ownsRow_nil _ _ _ _,Below.refl _ _⟩
 . obtain⟨g,cap,cur,hv,hg,h2,h3,h4,h5⟩:∃g cap cur,Value.slice ao n c = .slice (some ⟨g,0,none⟩) n cap/\w.heap[g]? = some (.cells cur 99)/\n<=cap/\cap<=maxLen/\cur.size=cap*3/\cur.toList.take (n*3)=xs:=by
    obtain⟨_,⟨h,h0⟩|⟨g,c',cur,h,_,h2,h3,h4,h5,h6⟩⟩:=hown
    . injection h with h;exact absurd h hnil
    . exact⟨g,c',cur,h,h2,h3,h4,h5,h6⟩
   injection hv with e1 e2 e3;subst e1 e3;have hlen:=hown.1;have hcell:∀(o:Obj) (j:Nat) (u:Value),xs[j]? = some u->(w.alloc o).cell? ⟨g,j,none⟩=some u:=fun o j u hj=>by
    have hA:(w.alloc o).heap[g]? = some (.cells cur 99):=aC o hg;rw[aA hA,<-Array.getElem?_toList];rw[<-h5] at hj;exact cX rfl hj
   have HC:=hid hcell;have H1:=hid h1;clear hown hcell hg h2 h3 h4 h5 h1 hnil;go_enter Tryz.func83,Tryz.ntmps83;go_wp2_with (at_builtin;refine wpList_append_own _ rfl _ _ 59 rfl w.heap.size 99 i0 (.agg #[.int .i64 0,.string bA,.string bA]) 3 40 Tryz.underlying59 hi0 hz0 hz1 hz2 rfl (by decide) _ _ _ rfl (World.ownsRow_made w #[] 0 (Nat.le_refl _) (Nat.zero_le _) rfl) ⟨g,0,none⟩ n c xs rfl ?qc1 ?qc2 ?qc3 ?qc4 ?qc5 ?qc6 ?_)
   case qc2=>exact fun j u hj=>HC.out _ j u hj
   case qc3=>exact H1.out
   case qc4=>unfold maxLen;omega
   case qc5=>omega
   intro v' w1 hown hgrow hnil;have hsh:∃a c,v' = .slice a n c:=by
    obtain⟨_,⟨h,h0⟩|⟨g,c,_,h,_⟩⟩:=hown
    . exact⟨none,0,by rw[h,show n=0 by omega]⟩
    . exact⟨_,_,h⟩
   obtain⟨a',c',rfl⟩:=hsh;have HO:=hid hown;have HG:=hid hgrow;clear hown hgrow hnil;go_wp2;go_ret;refine⟨a',c',rfl,by simpa using HO.out,?_⟩;exact ((Below.refl _ w).alloc (Nat.le_refl _) _).grown HG.out (by simp) (by intro k hk;simp[Value.ownBlock] at hk;omega)
theorem Ak{w2 w w':World}{p0 p1 p2:Addr}{v0 v1 v2:Value}(h:Below w2.heap.size w2 w/\w.cell? p0=some v0/\w.cell? p1=some v1/\w.cell? p2=some v2)(hb:Below w.heap.size w w') :
 Below w2.heap.size w2 w'/\w'.cell? p0=some v0/\w'.cell? p1=some v1/\w'.cell? p2=some v2:=⟨aF h.1 hb,aK hb h.2.1,aK hb h.2.2.1,aK hb h.2.2.2⟩
theorem Kn(l:List K):∀u∈l.flatMap gC,u.oneCell'=true:=by
 intro u hu;obtain⟨k,_,hk⟩:=List.mem_flatMap.1 hu;simp only[gC,List.mem_cons,List.not_mem_nil,or_false] at hk;rcases hk with rfl|rfl|rfl <;> rfl
def gM(k:K):ByteArray:=if 5<=k.kind/\k.kind<=7 then (kE k.kind++⟨#[32]⟩++k.file)++(⟨#[32]⟩++k.name) else kE k.kind++⟨#[32]⟩++k.file
theorem Ko{n:Nat}(h:n<=8):(kE n).size<=9:=by
 have:kE n=cK n:=fM n
 rw[this];have:=dU n
 omega
theorem Fm(k:K)(hk:Mn k)(w:World)(hp:PT w.heap.size w) :
 Calls Tryz.prog 52 #[cM k] w fun e w'=>e = .returned (.string (gM k))/\Below w.heap.size w w':=by
 obtain⟨kd,f,nm⟩:=k;obtain⟨⟨h1,h2⟩,h3⟩:=hk;unfold cD at h1 h2;simp only at h1 h2 h3;have hd:=Ko h3;have hA:cM ⟨kd,f,nm⟩ = .agg #[.int .i64 kd,.string f,.string nm]:=rfl;rw[hA];have HB:=hid (aG w (.cells #[.int .i64 kd,.string f,.string nm] 99));have HK:=hid (aI w (.cells #[.int .i64 kd,.string f,.string nm] 99));have HP:=hid hp;have HI:Hid (∀W,Below w.heap.size w W->Calls Tryz.prog 12 #[.int .i64 kd] W fun e w'=>e = .returned (.string (kE kd))/\Below W.heap.size W w'):=hid (fun W hb=>(Tryz.strconv_Itoa (kd:Int) (by omega) (by omega) _ (Lib.TabBelow.here (mJ HP.out hb))).mono fun e w' ⟨h1,kk,os,h2⟩=>⟨by rw[h1];rfl,by rw[h2];exact cH _ _ _⟩);have HNN:=hid (fun W=>oI (kd:Int) W);have hkt:gM ⟨kd,f,nm⟩=if 5<=kd/\kd<=7 then (kE kd++⟨#[32]⟩++f)++(⟨#[32]⟩++nm) else kE kd++⟨#[32]⟩++f:=rfl;rw[hkt];clear hA hkt hp;obtain⟨d,hdd⟩:∃d,d=kE kd:=⟨_,rfl⟩
 rw[<-hdd] at hd HI ⊢;obtain⟨b,hb⟩:∃b:Bool,b=decide (5<=kd/\kd<=7):=⟨_,rfl⟩
 have hb2:decide ((5:Int)<=(kd:Int)/\(kd:Int)<=7)=b:=by
  rw[hb];congr 1;exact propext (by omega)
 rw[hb2] at HNN;have hs1:¬(9223372036854775807<d.size+1):=by omega
 have hs2:¬(9223372036854775807<d.size+1+f.size):=by omega
 have hs3:¬(9223372036854775807<1+nm.size):=by omega
 have hs4:¬(9223372036854775807<d.size+1+f.size+(1+nm.size)):=by omega
 have hif:(if 5<=kd/\kd<=7 then (d++⟨#[32]⟩++f)++(⟨#[32]⟩++nm) else d++⟨#[32]⟩++f)=if b then (d++⟨#[32]⟩++f)++(⟨#[32]⟩++nm) else d++⟨#[32]⟩++f:=by rw[hb];simp
 rw[hif];clear hb hb2 hif hdd;go_enter Tryz.func52,Tryz.ntmps52;go_wp2_with fail
 generalize w.alloc (.cells #[.int .i64 kd,.string f,.string nm] 99)=W at HB HK ⊢;generalize w.heap.size=kb at HK ⊢;have hS:Below W.heap.size W W/\W.cell? ⟨kb,0,none⟩=some (.int .i64 kd)/\W.cell? ⟨kb,1,none⟩=some (.string f)/\W.cell? ⟨kb,2,none⟩=some (.string nm):=⟨Below.refl _ _,aA (i:=0) HK.out,aA (i:=1) HK.out,aA (i:=2) HK.out⟩
 have HI2:=hid (fun (W2:World) (hb:Below W.heap.size W W2)=>HI.out W2 (aF HB.out hb));clear HI;go_region_held3 (fun wx=>Below W.heap.size W wx/\wx.cell? ⟨kb,0,none⟩=some (.int .i64 kd)/\wx.cell? ⟨kb,1,none⟩=some (.string f)/\wx.cell? ⟨kb,2,none⟩=some (.string nm))
  (first
    | exact Ak (by assumption) (aJ _)
    | exact Ak (by assumption) (by assumption)
    | exact Ak (by assumption) (Below.refl _ _)
    | exact Ak hS (aJ _))
  (first
    | (go_at_call 12;refine (HI2.out _ (And.left (by assumption:Below W.heap.size W _/\_))).mono ?_;rintro e w2⟨rfl,hb2⟩)
    | (go_at_call 12;refine (HI2.out _ (Below.refl _ _)).mono ?_;rintro e w2⟨rfl,hb2⟩))
 have hHeld:=(by assumption:Below W.heap.size W w2/\_)
 have HBW:=hid (aF HB.out hHeld.1);have k0:=hHeld.2.1;have k2:=hHeld.2.2.2;clear hHeld hS hb2 HI2;go_wp2_with fail
 refine (HNN.out w2).mono ?_;rintro e w3⟨rfl,rfl⟩;cases b with
 | false=>
  go_wp2;go_ret;exact⟨rfl,HBW.out⟩
 | true=>
  go_wp2;go_ret;exact⟨rfl,HBW.out⟩
theorem jH{w w':World}{B:Nat}{e:TypeId}{size n:Nat}{v:Value}{xs:List Value}(h:w.ownsRow B e size v n xs)(hb:Below w.heap.size w w'):w'.ownsRow B e size v n xs:=bJ h fun g hg=>hb.block g (h.lt g hg).2
theorem Kp{w:World}{B B':Nat}{e:TypeId}{size n:Nat}{v:Value}{xs:List Value}(h:w.ownsRow B e size v n xs)(hb:B'<=B):w.ownsRow B' e size v n xs:=by
 obtain⟨hl,h1|⟨g,c,cur,h1,h2,h3⟩⟩:=h
 . exact⟨hl,.inl h1⟩
 . exact⟨hl,.inr ⟨g,c,cur,h1,Nat.le_trans hb h2,h3⟩⟩
theorem yF:∀(l:List K) (k j:Nat) (x:K),l[k]? = some x->j<3->(l.flatMap gC)[k*3+j]? = (gC x)[j]?
 | [],k,j,x,h,_=>by simp at h
 | y::l,0,j,x,h,hj=>by
  simp at h;subst h;rw[List.flatMap_cons,List.getElem?_append_left (by simp[gC];omega)];simp
 | y::l,k+1,j,x,h,hj=>by
  have ih:=yF l k j x (by simpa using h) hj;rw[List.flatMap_cons,List.getElem?_append_right (by simp[gC];omega),<-ih];congr 1;simp[gC];omega
theorem vT:(Tryz.prog.info? 9).map (fun i=>(i.zero,i.size,i.bytes))=some (some (.string bA),1,16):=by kernel_rfl
structure RK (l:List K) (w w1 wr:World) (k:Nat) (v:Value):Prop where
 b1:Below w1.heap.size w1 wr
 own:wr.ownsRow w1.heap.size 9 1 v k ((l.take k).map fun k=>.string (gM k))
theorem RK.below{l:List K}{w w1 wr w':World}{k:Nat}{v:Value}(h:RK l w w1 wr k v)(hb:Below wr.heap.size wr w'):RK l w w1 w' k v:=⟨aF h.b1 hb,jH h.own hb⟩
theorem RK.shape{l:List K}{w w1 wr:World}{k:Nat}{v:Value}(h:RK l w w1 wr k v):∃a c,v = .slice a k c:=by
 obtain⟨_,⟨h,h0⟩|⟨g,c,_,h,_⟩⟩:=h.own
 . exact⟨none,0,by rw[h,h0]⟩
 . exact⟨_,_,h⟩
section
variable {st:St V} {L:aM} {bs:Nat} {fm:Value} {w:World}
theorem LX(h:bN st L none bs fm w)(hn:st.began.length<=cD) :
 Calls Tryz.prog 51 #[.pointer (some ⟨bs,1,none⟩)] w fun e w'=>∃a c,e = .returned (.slice a st.began.length c)/\w'.ownsRow w.heap.size 99 3 (.slice a st.began.length c) st.began.length (st.began.flatMap gC)/\Below w.heap.size w w':=by
 obtain⟨q,sm,bg,kv,arr,hx⟩:=h;obtain⟨a0,c0,hbg⟩:∃a c,bg = .slice a st.began.length c:=by
  obtain⟨⟨_,⟨h,h0⟩|⟨g,c,_,h,_⟩⟩,_⟩:=hx.bg
  . exact⟨none,0,by rw[h,h0]⟩
  . exact⟨_,_,h⟩
 subst hbg;have c4:w.cell? ⟨bs,4,none⟩=some (.slice a0 st.began.length c0):=aA (i:=4) hx.s;have HC:=hid (Fl hx.bg.1 hn (Kn _));clear hx hn;go_enter Tryz.func51,Tryz.ntmps51;go_wp2_with fail
 refine HC.out.mono ?_;rintro e w1⟨a,c,rfl,h1,h2⟩;have H1:=hid h1;have H2:=hid h2;clear h1 h2;go_wp2;go_ret;exact⟨a,c,rfl,H1.out,H2.out⟩
theorem Ou(h:bN st L none bs fm w)(hb:dQ st)(hp:PT w.heap.size w) :
 Calls Tryz.prog 25 #[ptr bs] w fun e w'=>∃v,e = .returned v/\w'.ownsRow w.heap.size 9 1 v st.began.length (st.began.map fun k=>.string (gM k))/\Below w.heap.size w w':=by
 have HB:=hid (LX h hb.1);have HBK:=hid hb;have HP:=hid hp;obtain⟨n,hn⟩:∃n,n=st.began.length:=⟨_,rfl⟩
 have hn1:(n:Int)<=1099511627776:=by have:=hb.1;unfold cD at this;omega
 rw[<-hn] at HB ⊢;have HN:=hid hn;clear h hb hp hn;go_enter Tryz.func25,Tryz.ntmps25;go_wp2_with fail
 refine HB.out.mono ?_;rintro e w1⟨a,c,rfl,h1,h2⟩;have H1:=hid h1;have H2:=hid h2;clear h1 h2 HB;obtain⟨i0,hi0,hz0,hz1,hz2⟩:=info_parts vT;have HE0:Hid (RK st.began w w1 w1 0 (.slice none 0 0)):=hid ⟨Below.refl _ _,World.ownsRow_nil _ _ _ _⟩;go_wp2;go_loopg [3,13] n (fun f v v13 wr=>∃k,k+f=n/\v13 = .int .i64 (k:Nat)/\RK st.began w w1 wr k v)
 case atStart=>exact⟨0,by omega,rfl,HE0.out⟩
 case round=>
  clear HE0;obtain⟨k,hk,rfl,hext⟩:=hrel;obtain⟨ao,co,rfl⟩:=hext.shape;have HT:=hid hext;clear hext;by_cases hlt:k<n
  . obtain⟨x,hx⟩:∃x,st.began[k]? = some x:=⟨_,List.getElem?_eq_getElem (by have:=HN.out;omega)⟩
    have hxm:=List.mem_of_getElem? hx;have HSZ:=hid (HBK.out.2 x hxm);have HX:=hid hx;obtain⟨g,hg,z0,z1,z2⟩:∃g,a=some ⟨g,0,none⟩/\wr.cell? ⟨g,k*3,none⟩=some (.int .i64 x.kind)/\wr.cell? ⟨g,k*3+1,none⟩=some (.string x.file)/\wr.cell? ⟨g,k*3+2,none⟩=some (.string x.name):=by
     obtain⟨_,⟨h,h0⟩|⟨g,c',cur,h,_,h2,h3,h4,h5,h6⟩⟩:=H1.out
     . omega
     . injection h with h7 _ _
       have hA:=below_heap HT.out.b1 (aB h2) h2;have hc:∀(j:Nat) (u:Value),j<3->(gC x)[j]? = some u->wr.cell? ⟨g,k*3+j,none⟩=some u:=fun j u hj hu=>by
        rw[aA hA,<-Array.getElem?_toList];exact cX h6 (by rw[yF _ _ _ _ hx hj];exact hu)
       exact⟨g,h7,hc 0 _ (by omega) rfl,hc 1 _ (by omega) rfl,hc 2 _ (by omega) rfl⟩
    subst hg;have hlt2:(k:Int)<(n:Int):=by omega
    have hkc:(0:Int)<=(k:Int):=by omega
    have HWK:Hid (∀W,Below wr.heap.size wr W->Calls Tryz.prog 52 #[.agg #[.int .i64 x.kind,.string x.file,.string x.name]] W fun e w'=>e = .returned (.string (gM x))/\Below W.heap.size W w'):=hid (fun W hb=>Fm x HSZ.out W (mJ HP.out (aF H2.out (aF HT.out.b1 hb))));have hbig:k<=1099511627776:=by omega
    clear hx hxm;go_wp2_with (first
     | (go_at_call 52;go_must (refine (HWK.out _ (aG _ _)).mono ?_;rintro e w3⟨rfl,hb3⟩;have HT3:=hid ((HT.out.below (aG _ _)).below hb3);have hown0:=HT3.out.own;have hl3:=HT3.out.b1.size))
     | (at_builtin;go_must (refine wpList_append_own_at _ rfl _ _ 25 rfl w1.heap.size 9 i0 (.string bA) 1 16 Tryz.underlying25 hi0 hz0 hz1 hz2 rfl (by decide) _ _ _ rfl (hown0.alloc _) ⟨w3.heap.size,0,none⟩ 1 1 [.string (gM x)] rfl rfl ?c1 ?c2 ?c3 ?c4 ?c5 ?_)))
    all_goals first
     | (intro j u hj
        match j,hj with
        | 0,hj=>simp at hj;subst hj;exact World.cell?_alloc_at _ _ _ _ (by simp)
        | (n+1),hj=>simp at hj)
     | (intro u hu;simp at hu;subst hu;rfl)
     | (unfold maxLen;omega)
     | omega
     | (simp;omega)
     | skip
    intro v' w4 hown' hgrow hnil hloc;have HT4:Hid (RK st.began w w1 w4 (k+1) v'):=hid (by
     refine⟨?_,?_⟩
     . have h3:=HT3.out.b1.alloc (by omega) (.cells #[.string (gM x)] 9)
       refine h3.grown hgrow (by simp;omega) fun q hq=>?_;have:=hown0.lt q hq
       omega
     . have he:(st.began.take (k+1)).map (fun k=>Value.string (gM k))=(st.began.take k).map (fun k=>Value.string (gM k)) ++ [.string (gM x)]:=by
        have hl:=(List.getElem?_eq_some_iff.1 HX.out)
        obtain⟨h1,h2⟩:=hl;rw[List.take_succ_eq_append_getElem h1,h2,List.map_append];rfl
       rw[he,List.map_take];exact hown')
    obtain⟨a4,c4,rfl⟩:=HT4.out.shape;clear hown' hgrow hnil hloc hown0;go_wp2;go_roundg (n-(k+1))
    case rel=>exact⟨k+1,by omega,by go_num,HT4.out⟩
    case measure=>omega
  . have hke:k=n:=by omega
    subst hke;have hlt2:¬((k:Int)<(k:Int)):=by omega
    go_wp2;go_ret;have h1:=HT.out.own;rw[List.take_of_length_le (by have:=HN.out;omega)] at h1;exact⟨_,rfl,Kp h1 H2.out.size,aF H2.out HT.out.b1⟩
end
section
variable {W0:World} {st:St V} {L:aM} {bs:Nat} {fm:Value} {w:World}
theorem Fo(h:bN st L none bs fm w):Calls Tryz.prog 26 #[.pointer (some ⟨bs,1,none⟩)] w fun e w'=>e = .returned (.int .i64 st.rev)/\w'=w:=by
 have c1:w.cell? ⟨bs,1,none⟩=some (.int .i64 st.rev):=by
  obtain⟨q,sm,bg,kv,arr,hx⟩:=h;exact aA (i:=1) hx.s
 clear h;go_enter Tryz.func26,Tryz.ntmps26;go_wp2;go_ret;exact⟨rfl,rfl⟩
theorem Nm(h:bN st L none bs fm w):Calls Tryz.prog 27 #[.pointer (some ⟨bs,1,none⟩)] w fun e w'=>e = .returned (.int .i64 st.kept.length)/\w'=w:=by
 obtain⟨q,sm,bg,kv,arr,hx⟩:=h;have hle:=hx.perm.length_eq;obtain⟨ao,c,hkv⟩:∃ao c,kv = .slice ao arr.length c:=by
  obtain⟨⟨_,⟨h1,h2⟩|⟨g,c,cur,h1,_⟩⟩,_⟩:=hx.kv
  . exact⟨none,0,by rw[h1,h2]⟩
  . exact⟨_,_,h1⟩
 subst hkv;have c5:w.cell? ⟨bs,5,none⟩=some (.slice ao arr.length c):=aA (i:=5) hx.s;rw[<-hle];clear hx hle;go_enter Tryz.func27,Tryz.ntmps27;go_wp2;go_ret;exact⟨rfl,rfl⟩
theorem Nn(h:bN st L none bs fm w)(hM:FM W0 st.files L fm w):Calls Tryz.prog 14 #[ptr bs] w fun e w'=>∃nf:Int,e = .returned (.agg #[.int .i64 st.rev,.int .i64 nf,.int .i64 st.kept.length])/\Below w.heap.size w w':=by
 have HR:=hid (fun (W:World) (hb:Below w.heap.size w W)=>Fo (h.below hb));have HK:=hid (fun (W:World) (hb:Below w.heap.size w W)=>Nm (h.below hb));obtain⟨cs,hs⟩:∃cs,w.heap[bs]? = some (.cells cs 66)/\cs[0]? = some fm:=by
  obtain⟨q,sm,bg,kv,arr,hx⟩:=h;exact⟨_,hx.s,rfl⟩
 have c0:∀W,Below w.heap.size w W->W.cell? ⟨bs,0,none⟩=some fm:=fun W hb=>by rw[aA (below_heap hb (aB hs.1) hs.1)];exact hs.2
 obtain⟨nf,hl⟩:∃nf:Int,∀W,Below w.heap.size w W->∀ty,(Builtin.len_ #[56] ty #[fm]).run Tryz.prog W = .ok (.int .i64 nf) W:=by
  rcases hM.mp with ⟨rfl,_⟩|⟨b,es,n,rfl,_,h4,_⟩
  . exact⟨0,fun W _ ty=>Maps.len_nil (P:=Tryz.prog) (w:=W) Tryz.underlying56 ty⟩
  . refine⟨es.size,fun W hb ty=>?_⟩
    have h5:=below_heap hb (aB h4) h4;simp[Builtin.len_,run_underlying Tryz.underlying56,MapKept.run_getObj_map h5,goInt,Result.andThen]
 obtain⟨r,hr⟩:∃r:Int,r=(st.rev:Int):=⟨_,rfl⟩
 obtain⟨k,hk⟩:∃k:Int,k=(st.kept.length:Int):=⟨_,rfl⟩
 rw[<-hr] at HR ⊢;rw[<-hk] at HK ⊢;clear h hM hs hr hk;have HBW:=hid (aG w (.cells #[.int .i64 0,.int .i64 0,.int .i64 0] 43));have HSB:=hid (aI w (.cells #[.int .i64 0,.int .i64 0,.int .i64 0] 43));go_enter Tryz.func14,Tryz.ntmps14;go_wp2_with fail
 generalize hW:w.alloc (.cells #[.int .i64 0,.int .i64 0,.int .i64 0] 43)=W at HBW HSB ⊢;generalize hN:w.heap.size=N at HSB ⊢;have k0:W.cell? ⟨N,0,none⟩=some (.int .i64 0):=aA (i:=0) HSB.out;have k1:W.cell? ⟨N,1,none⟩=some (.int .i64 0):=aA (i:=1) HSB.out;have k2:W.cell? ⟨N,2,none⟩=some (.int .i64 0):=aA (i:=2) HSB.out;have g0:∀i,W.frozen? ⟨N,i,none⟩=false:=fun i=>aE HSB.out;have hfin:=aH (i:=2) (aH (i:=1) (aH (i:=0) HSB.out (.int .i64 r)) (.int .i64 nf)) (.int .i64 k);have HC:=hid (And.intro (aA (i:=0) hfin) (And.intro (aA (i:=1) hfin) (aA (i:=2) hfin)));have HFB:Hid (Below w.heap.size w ((((W.setCell ⟨N,0,none⟩ (.int .i64 r)).setCell ⟨N,1,none⟩ (.int .i64 nf)).setCell ⟨N,2,none⟩ (.int .i64 k)).drew)):=hid ⟨HBW.out.os,HBW.out.tape,HBW.out.output,by have:=HBW.out.size;simpa using this,fun q hq=>by
  have hne:q≠N:=by omega
  exact (aD hne _).trans ((aD hne _).trans ((aD hne _).trans (HBW.out.block q hq)))⟩
 clear hfin;have b0:=HBW.out;rw[hN] at b0;have hcW:=c0 W HBW.out;have hl0:=hl W HBW.out;have hl1:=hl W.drew (aF HBW.out (below_drewN _ 1));have hl2:=hl W.drew.drew (aF HBW.out (below_drewN _ 2));clear c0 hl b0;go_region_with (first
  | (go_at_call 26;go_must (refine (HR.out _ (aF HBW.out (by first|exact Below.refl _ _|exact below_drewN _ _))).mono ?_;rintro e w3⟨rfl,rfl⟩))
  | (go_at_call 27;go_must (refine (HK.out _ (aF HBW.out (by first|exact Below.refl _ _|exact below_drewN _ _))).mono ?_;rintro e w3⟨rfl,rfl⟩)))
 all_goals
  have y0:=HC.out.1;have y1:=HC.out.2.1;have y2:=HC.out.2.2;go_wp2;refine bodyPost_ret (v:=.agg #[.int .i64 r,.int .i64 nf,.int .i64 k]) (by simp[results,Tryz.results14,go_sem,y0,y1,y2];try rfl) rfl ?_;exact⟨nf,rfl,HFB.out⟩
end
section
variable {W0:World} {fs:List (ByteArray×ByteArray)} {L:aM} {fm:Value} {w:World} {bs:Nat} {st:St V}
theorem Np(h:bN st L none bs fm w)(hF:qR W0 fs st.files L fm w)(hlen:fs.length<=5) :
 Calls Tryz.prog 31 #[ptr bs] w fun e w'=>e = .returned (.bool false)/\w'=w:=by
 have c0:w.cell? ⟨bs,0,none⟩=some fm:=by
  obtain⟨q,sm,bg,kv,arr,hx⟩:=h;exact aA (i:=0) hx.s
 rcases hF.mp with ⟨rfl,_⟩|⟨b,es,n,rfl,_,_,h4,h5⟩
 . have hl:=Maps.len_nil (P:=Tryz.prog) (w:=w) Tryz.underlying56 3
   clear h hF;go_enter Tryz.func31,Tryz.ntmps31;go_wp2;go_ret;exact⟨rfl,rfl⟩
 . have hl:∀ty,(Builtin.len_ #[56] ty #[.map (some b)]).run Tryz.prog w = .ok (.int .i64 es.size) w:=fun ty=>by
    simp[Builtin.len_,run_underlying Tryz.underlying56,MapKept.run_getObj_map h4,goInt,Result.andThen]
   have hsz:es.size=fs.length:=by
    have:=congrArg List.length h5
    simpa using this
   have hlt:¬((6:Int)<=(fs.length:Int)):=by omega
   rw[hsz] at hl;clear h hF h4 h5 hsz;go_enter Tryz.func31,Tryz.ntmps31;go_wp2;go_ret;exact⟨rfl,rfl⟩
structure o5 (W0:World) (fs:List (ByteArray×ByteArray)) (st:St V) (L:aM) (bs b:Nat) (w:World):Prop where
 e:bN st L none bs (.map (some b)) w
 f:qR W0 fs st.files L (.map (some b)) w
theorem o5.below{b:Nat}(h:o5 W0 fs st L bs b w){w':World}(hb:Below w.heap.size w w'):o5 W0 fs st L bs b w':=⟨h.e.below hb,h.f.below hb⟩
theorem o5.step{b:Nat}{w':World}(h:Hid (o5 W0 fs st L bs b w))(hb:Below w.heap.size w w'):Hid (o5 W0 fs st L bs b w'):=h.out.below hb
theorem o5.dr{b:Nat}(h:Hid (o5 W0 fs st L bs b w)):Hid (o5 W0 fs st L bs b w.drew):=h.out.below (below_drewN _ _)
theorem o5.c0{b:Nat}(h:o5 W0 fs st L bs b w):w.cell? ⟨bs,0,none⟩=some (.map (some b)):=by
 obtain⟨q,sm,bg,kv,arr,hx⟩:=h.e;exact aA (i:=0) hx.s
theorem o5.put{b:Nat}{w':World}(h:o5 W0 fs st L bs b w'){f t:ByteArray}(hnew:st.files f=none)(ht:t.size<=400) :
 ∃o,(Instr.mapUpdate 56 (.map (some b)) (.string f) (.agg #[.string t])).run Tryz.prog w' = .ok () (Ses.setO w' b o)/\
  o5 W0 (fs ++ [(f,t)]) ({st with files:=fun g=>if g=f then some t else st.files g}:St V) L bs b (Ses.setO w' b o):=by
 obtain⟨b',es,n,h1,h2,h3,h4,h5⟩:∃b' es n,Value.map (some b) = .map (some b')/\W0.heap.size<=b'/\¬L.own b'/\w'.heap[b']? = some (.map es n)/\es.toList.map (fun e=>(e.key,e.val))=fs.map (fun p=>(.string p.1,.agg #[.string p.2])):=by
  rcases h.f.mp with ⟨h1,_⟩|h
  . cases h1
  . exact h
 injection h1 with h1;injection h1 with h1;subst h1;have hnk:f∉fs.map (·.1):=fun e=>by
  obtain⟨⟨a,x⟩,e1,rfl⟩:=List.mem_map.1 e;have:=(h.f.fl a x).1 e1
  simp only at hnew;rw[hnew] at this;cases this
 obtain⟨a,c⟩:=J8 h.e h.f h4 hnew ht;exact⟨_,C2 f t h4 h5 hnk,a.filesTo _,c⟩
theorem pW(st:St V)(f:ByteArray)(G:ByteArray->Option ByteArray):({st with files:=G}:St V).change f={st.change f with files:=G}:=by
 unfold St.change St.source;cases st.src f <;> simp
def tA(W0:World)(fs:List (ByteArray×ByteArray))(st:St V)(bs:Nat)(f t:ByteArray)(w':World):Prop:=
 ∃L' fm',bN (st.setF f t) L' none bs fm' w'/\qR W0 (fs ++ [(f,t)]) (st.setF f t).files L' fm' w'
theorem Ov{b:Nat}(h:o5 W0 fs st L bs b w){f t:ByteArray}(hf:f.size<=8)(hnew:st.files f=none)(ht:t.size<=400)(hr:st.rev<1000) :
 Calls Tryz.prog 32 #[ptr bs,.string f,.string t] w fun e w'=>e = .returned (.tuple #[])/\tA W0 fs st bs f t w':=by
 have c0:=h.c0;have hP:Hid (o5 W0 fs st L bs b w):=h;have hmn:∀W:World,(binOp .eql 56 (.map (some b)) (.map none)).run Tryz.prog W = .ok (.bool false) W:=fun W=>run_eql_map_nil W 56 9 102 (some b) Tryz.underlying56;have HF:=hid hf;have HN:=hid hnew;have HT:=hid ht;have HR:=hid hr;clear h hf hnew ht hr;go_enter Tryz.func32,Tryz.ntmps32;go_wp2;go_region_with (go_at_call 23;go_must (refine (dJ _ _ ?hh).mono ?_;(case hh=>(unfold cD;first|(have:=HT.out;omega)|(have:=HF.out;omega)));rintro e w'⟨rfl,hb⟩;have hP:Hid (o5 W0 fs st L bs b w'):=(by first|exact o5.step hP hb|exact o5.step (o5.dr hP) hb|exact o5.step (o5.dr (o5.dr hP)) hb);have c0':=hP.out.c0;clear hb;obtain⟨o,hst,hpp⟩:=hP.out.put HN.out HT.out;have HPP:=hid hpp;clear hpp))
 all_goals go_wp2_with fail
 all_goals refine (D3 (bN.below HPP.out.e (by first|exact Below.refl _ _|exact below_drewN _ _)) f (by have:=HF.out;unfold cD;omega) HR.out).mono ?_
 all_goals rintro e w2⟨rfl,L2,hE,hN⟩
 all_goals
  have HE:=hid (And.intro hE hN);clear hE hN;go_wp2;go_end0
  refine⟨rfl,L2,.map (some b),?_,?_⟩
  . have:=HE.out.1
    rw[pW] at this;exact this
  . first
     | exact HPP.out.f.next HE.out.2
     | exact (HPP.out.f.below (below_drewN _ _)).next HE.out.2
theorem Ow(h:bN st L none bs (.map none) w)(hF:qR W0 [] st.files L (.map none) w){f t:ByteArray}(hf:f.size<=8)(hnew:st.files f=none)(ht:t.size<=400)(hr:st.rev<1000) :
 Calls Tryz.prog 32 #[ptr bs,.string f,.string t] w fun e w'=>e = .returned (.tuple #[])/\tA W0 [] st bs f t w':=by
 obtain⟨hm1,hm2⟩:=J7 h hF;have c0:w.cell? ⟨bs,0,none⟩=some (.map none):=by
  obtain⟨q,sm,bg,kv,arr,hx⟩:=h;exact aA (i:=0) hx.s
 have f0:w.frozen? ⟨bs,0,none⟩=false:=by
  obtain⟨q,sm,bg,kv,arr,hx⟩:=h;exact aE hx.s
 obtain⟨cs,hs⟩:∃cs,w.heap[bs]? = some (.cells cs 66):=by
  obtain⟨q,sm,bg,kv,arr,hx⟩:=h;exact⟨_,hx.s⟩
 have hb:=aB hs;have d0:∀o,(w.alloc o).cell? ⟨bs,0,none⟩=some (.map none):=fun o=>by
  rw[aA ((Below.heap_alloc w o bs hb).trans hs),<-aA hs];exact c0
 have g0:∀o,(w.alloc o).frozen? ⟨bs,0,none⟩=false:=fun o=>aE ((Below.heap_alloc w o bs hb).trans hs);have hmn:∀W:World,(binOp .eql 56 (.map none) (.map none)).run Tryz.prog W = .ok (.bool true) W:=fun W=>run_eql_map_nil W 56 9 102 none Tryz.underlying56;have hmk:∀W:World,(Instr.makeMap 56 none).run Tryz.prog W = .ok (.map (some W.heap.size)) (W.alloc (.map #[] 0)):=fun W=>@run_makeMap Tryz.prog 56 W;have hP:Hid (o5 W0 [] st L bs w.heap.size ((w.setCell ⟨bs,0,none⟩ (.map (some w.heap.size))).alloc (.map #[] 0))):=⟨hm1,hm2⟩
 have HF:=hid hf;have HN:=hid hnew;have HT:=hid ht;have HR:=hid hr;clear h hF hm1 hm2 hf hnew ht hr hs;go_enter Tryz.func32,Tryz.ntmps32;go_wp2;generalize (w.setCell ⟨bs,0,none⟩ (.map (some w.heap.size))).alloc (.map #[] 0)=W at hP ⊢;have e0:W.cell? ⟨bs,0,none⟩=some (.map (some w.heap.size)):=hP.out.c0;clear c0 f0 d0 g0 hmn hmk hb;go_region_with (go_at_call 23;go_must (refine (dJ _ _ ?hh).mono ?_;(case hh=>(unfold cD;first|(have:=HT.out;omega)|(have:=HF.out;omega)));rintro e w'⟨rfl,hb⟩;have hP:Hid (o5 W0 [] st L bs w.heap.size w'):=(by first|exact o5.step hP hb|exact o5.step (o5.dr hP) hb|exact o5.step (o5.dr (o5.dr hP)) hb);have c0':=hP.out.c0;clear hb;obtain⟨o,hst,hpp⟩:=hP.out.put HN.out HT.out;have HPP:=hid hpp;clear hpp))
 all_goals go_wp2_with fail
 all_goals refine (D3 (bN.below HPP.out.e (by first|exact Below.refl _ _|exact below_drewN _ _)) f (by have:=HF.out;unfold cD;omega) HR.out).mono ?_
 all_goals rintro e w2⟨rfl,L2,hE,hN⟩
 all_goals
  have HE:=hid (And.intro hE hN);clear hE hN;go_wp2;go_end0
  refine⟨rfl,L2,.map (some w.heap.size),?_,?_⟩
  . have:=HE.out.1
    rw[pW] at this;exact this
  . first
     | exact HPP.out.f.next HE.out.2
     | exact (HPP.out.f.below (below_drewN _ _)).next HE.out.2
theorem Ox(h:bN st L none bs fm w)(hF:qR W0 fs st.files L fm w){f t:ByteArray}(hf:f.size<=8)(hnew:st.files f=none)(ht:t.size<=400)(hr:st.rev<1000) :
 Calls Tryz.prog 32 #[ptr bs,.string f,.string t] w fun e w'=>e = .returned (.tuple #[])/\tA W0 fs st bs f t w':=by
 rcases hF.mp with ⟨rfl,rfl⟩|⟨b,es,n,rfl,_⟩
 . exact Ow h hF hf hnew ht hr
 . exact Ov ⟨h,hF⟩ hf hnew ht hr
theorem Oy(h:bN st L none bs fm w):Calls Tryz.prog 26 #[.pointer (some ⟨bs,1,none⟩)] w fun e w'=>e = .returned (.int .i64 st.rev)/\w'=w:=by
 have c1:=h.cell1.1;clear h;go_enter Tryz.func26,Tryz.ntmps26;go_wp2;go_ret;exact⟨rfl,rfl⟩
def nH(W0:World)(fs:List (ByteArray×ByteArray))(st:St V)(bs:Nat)(f t:ByteArray)(w':World):Prop:=
 if t.size<=400 then tA W0 fs {st with began:=[]} bs f t w' else ∃L' fm',bN {st with began:=[]} L' none bs fm' w'/\qR W0 fs st.files L' fm' w'
theorem LY(h:bN st L none bs fm w)(hF:qR W0 fs st.files L fm w){f t:ByteArray}(hfb:eM f=true)(hnew:st.files f=none)(hlen:fs.length<=5)(hr:st.rev<1000)(hm:t.size<=maxLen) :
 Calls Tryz.prog 18 #[ptr bs,.string f,.string t] w fun e w'=>e = .returned (.int .i64 (if t.size<=400 then 0 else 2))/\nH W0 fs st bs f t w':=by
 have HB:=hid (CW h);have HF:=hid hF;have HIF:=hid (fun W=>oW f W);rw[hfb] at HIF;have hf8:f.size<=8:=by
  unfold eM at hfb;simp only[Bool.and_eq_true] at hfb;exact lH hfb.1.1
 have H8:=hid hf8;have HN:=hid hnew;have HL:=hid hlen;have HR:=hid hr;unfold maxLen at hm;unfold nH;clear h hF hfb hnew hlen hr hf8;by_cases ht:t.size<=400
 . have hlt:¬((400:Int)<(t.size:Int)):=by omega
   have HT:=hid ht;simp only[if_pos ht];clear ht;go_enter Tryz.func18,Tryz.ntmps18;go_wp2_with fail
   refine HB.out.mono ?_;rintro e w1⟨rfl,hh⟩;have H1:=hid (And.intro hh.out.1 (HF.out.next hh.out.2));clear hh;go_wp2_with fail
   refine (HIF.out w1).mono ?_;rintro e w2⟨rfl,rfl⟩;have HTX:=hid (KN H1.out.1 H1.out.2.files f);rw[show ({st with began:=[]}:St V).files f=none from HN.out] at HTX;go_wp2_with fail
   refine HTX.out.mono ?_;rintro e w3⟨rfl,hb⟩;have H3:=hid (And.intro (H1.out.1.below hb) (H1.out.2.below hb));clear hb HTX;go_wp2_with fail
   refine (Np H3.out.1 H3.out.2 HL.out).mono ?_;rintro e w4⟨rfl,rfl⟩;have hr1:¬((1000:Int)<=(st.rev:Int)):=by have:=HR.out;omega
   have HRV:=hid (Oy H3.out.1);go_wp2_with fail
   refine HRV.out.mono ?_;rintro e w5⟨rfl,rfl⟩;go_wp2_with fail
   refine (Ox H3.out.1 H3.out.2 H8.out HN.out HT.out HR.out).mono ?_;rintro e w6⟨rfl,hp⟩;have HP:=hid hp;clear hp;go_wp2;go_ret;exact⟨rfl,HP.out⟩
 . have hlt:(400:Int)<(t.size:Int):=by omega
   simp only[if_neg ht];clear ht;go_enter Tryz.func18,Tryz.ntmps18;go_wp2_with fail
   refine HB.out.mono ?_;rintro e w1⟨rfl,hh⟩;have H1:=hid (And.intro hh.out.1 (HF.out.next hh.out.2));clear hh;go_wp2_with fail
   refine (HIF.out w1).mono ?_;rintro e w2⟨rfl,rfl⟩;go_wp2;go_ret;exact⟨rfl,L,fm,H1.out.1,H1.out.2⟩
end
abbrev kU:Obj:=.cells #[.map none,.int .i64 0,.map none,.map none,.slice none 0 0,.slice none 0 0,.int .u64 0] 66
theorem Nq(w:World):Calls Tryz.prog 17 #[] w fun e w'=>e = .returned (.pointer (some ⟨w.heap.size,0,none⟩))/\w'=w.alloc kU:=by
 go_enter Tryz.func17,Tryz.ntmps17;go_wp2;go_ret;exact⟨rfl,rfl⟩
def gS:St V:=⟨0,fun _=>none,fun _=>none,fun _=>none,[],[],0⟩
def Iq(bs:Nat):aM:=⟨fun _=>0,fun _=>0,fun b=>b=bs⟩
theorem D5{W0 w:World}{bs:Nat}(h:w.heap[bs]? = some kU)(hl:Below W0.heap.size W0 w)(hbs:W0.heap.size<=bs):bN gS (Iq bs) none bs (.map none) w/\qR W0 [] gS.files (Iq bs) (.map none) w:=by
 refine⟨⟨.map none,.map none,.slice none 0 0,.slice none 0 0,[],⟨⟨h,rfl,fun b hb=>by rw[show b=bs from hb];exact aB h,.inl ⟨rfl,fun _=>rfl⟩,fun f c hf=>by simp[gS] at hf,fun f g hf=>absurd rfl hf,fun b hb=>by simp at hb,.inl ⟨rfl,fun _=>rfl⟩,⟨World.ownsRow_nil _ _ _ _,fun g hg=>by simp[Value.ownBlock] at hg⟩,⟨World.ownsRow_nil _ _ _ _,fun g hg=>by simp[Value.ownBlock] at hg⟩,List.Perm.refl _,List.nodup_nil,Nat.zero_le _,fun k hk=>by simp at hk,fun k m hk=>by simp[gS] at hk⟩,fun i hi=>by simp at hi⟩⟩,.inl ⟨rfl,rfl⟩,List.nodup_nil,fun f x=>by simp[gS],fun f x hf=>by simp[gS] at hf,hl,fun b hb=>by rw[show b=bs from hb];exact hbs⟩
structure Raw (st:St V):Prop where
 sl:∀k,st.sl k=none
 kept:st.kept = []
 uses:st.uses=0
 began:st.began = []
theorem D6:Raw gS:=⟨fun _=>rfl,rfl,rfl,rfl⟩
theorem Raw.beg{st:St V}(h:Raw st):Raw {st with began:=[]}:=⟨h.sl,h.kept,h.uses,rfl⟩
theorem Raw.setF{st:St V}(h:Raw st)(f t:ByteArray):Raw (st.setF f t):=⟨h.sl,h.kept,h.uses,h.began⟩
section
variable {W0:World} {bs:Nat} {fm:Value} {st:St V} {L:aM} {w:World} {fs:List (ByteArray×ByteArray)} {v:ByteArray->ByteArray->ByteArray}
theorem Raw.well(h:Raw st)(hE:bN st L none bs fm w)(hF:qR W0 fs st.files L fm w):Aj W0 bs fm st.files v 0 st w:=by
 refine⟨⟨L,hE,hF.files⟩,⟨rfl,fun k m hk=>?_,fun k=>?_,?_⟩,fun k=>?_,?_,?_,?_⟩
 . rw[h.sl] at hk;cases hk
 . rw[h.kept]
   constructor
   . intro hk;simp at hk
   . rintro⟨m,x,hk,_⟩;rw[h.sl] at hk;cases hk
 . rw[h.kept];exact List.nodup_nil
 . unfold actB;rw[h.sl]
 . exact⟨by rw[h.began];exact Nat.zero_le _,fun k hk=>by rw[h.began] at hk;simp at hk⟩
 . rw[h.kept];exact Nat.zero_le _
 . rw[h.uses];exact Nat.zero_le _
theorem Aj.below{F:eV}{n:Nat}(h:Aj W0 bs fm F v n st w){w':World}(hb:Below w.heap.size w w'):Aj W0 bs fm F v n st w':=by
 obtain⟨L,hA⟩:=h.ex;exact⟨⟨L,hA.below hb⟩,h.inv,h.idle,h.beg,h.kept,h.uses⟩
theorem Aj.low{F:eV}{n:Nat}(h:Aj W0 bs fm F v n st w):Below W0.heap.size W0 w:=by
 obtain⟨L,hA⟩:=h.ex;exact hA.m.low
end
structure N5 (W:World) (a:Option Addr) (Xs:List ByteArray):Prop where
 ex:∃b o:Nat,(0<Xs.length->a=some ⟨b,o,none⟩/\b<W.heap.size)/\∀(j:Nat) X,Xs[j]? = some X->W.cell? ⟨b,o+j,none⟩=some (.string X)
 sz:∀X∈Xs,X.size<=maxLen
 ln:Xs.length<=maxLen
def bX(i:Nat):ByteArray:=⟨#[UInt8.ofNat (97+i)]⟩
theorem qT{i j:Nat}(hi:i<6)(hj:j<6)(h:bX i=bX j):i=j:=by
 have key:∀a:Fin 6,∀b:Fin 6,bX a=bX b->a=b:=by decide
 have:=key ⟨i,hi⟩ ⟨j,hj⟩ h
 exact Fin.mk.inj this
theorem BV{i:Nat}(hi:i<6):eM (bX i)=true:=by
 have key:∀a:Fin 6,eM (bX a)=true:=by
  intro a;match a with
  | 0=>show eM (bX 0)=true;kernel_rfl
  | 1=>show eM (bX 1)=true;kernel_rfl
  | 2=>show eM (bX 2)=true;kernel_rfl
  | 3=>show eM (bX 3)=true;kernel_rfl
  | 4=>show eM (bX 4)=true;kernel_rfl
  | 5=>show eM (bX 5)=true;kernel_rfl
 exact key ⟨i,hi⟩
theorem Ir(i:Nat)(hi:i<6)(w:World):Calls Tryz.prog 10 #[.int .i64 (i:Nat)] w fun e w'=>e = .returned (.string (bX i))/\w'=w:=by
 have h6:i=0\/i=1\/i=2\/i=3\/i=4\/i=5:=by omega
 rcases h6 with rfl|rfl|rfl|rfl|rfl|rfl
 all_goals
  go_enter Tryz.func10,Tryz.ntmps10;go_wp2;go_ret;exact⟨rfl,rfl⟩
structure Mo (W0:World) (bs:Nat) (i:Nat) (wr:World):Prop where
 ex:∃(st:St V) (L:aM) (fm:Value) (fs:List (ByteArray×ByteArray)),bN st L none bs fm wr/\qR W0 fs st.files L fm wr/\Raw st/\st.rev<=i/\fs.length<=i/\∀f x,st.files f=some x->∃j,j<i/\f=bX j
theorem Mo.below{W0:World}{bs i:Nat}{wr w':World}(h:Mo W0 bs i wr)(hb:Below wr.heap.size wr w'):Mo W0 bs i w':=by
 obtain⟨st,L,fm,fs,h1,h2,h3⟩:=h.ex;exact⟨st,L,fm,fs,h1.below hb,h2.below hb,h3⟩
theorem BW(st:St V)(f t:ByteArray):(st.setF f t).rev=st.rev+1:=rfl
theorem Mo.set{W0:World}{bs i:Nat}{wr:World}(h:Mo W0 bs i wr)(hi:i<6)(t:ByteArray)(ht:t.size<=maxLen) :
 Calls Tryz.prog 18 #[ptr bs,.string (bX i),.string t] wr fun e w'=>∃c:Int,e = .returned (.int .i64 c)/\Mo W0 bs (i+1) w':=by
 obtain⟨st,L,fm,fs,h1,h2,h3,h4,h5,h6⟩:=h.ex;have hnew:st.files (bX i)=none:=by
  cases hf:st.files (bX i) with
  | none=>rfl
  | some x=>
   obtain⟨j,hj,e⟩:=h6 _ x hf;have:=qT hi (by omega) e
   omega
 refine (LY h1 h2 (BV hi) hnew (by omega) (by omega) ht).mono ?_;rintro e w'⟨rfl,hp⟩;refine⟨_,rfl,?_⟩;unfold nH at hp;split at hp
 . obtain⟨L',fm',hE,hF⟩:=hp
   refine⟨_,L',fm',_,hE,hF,h3.beg.setF _ _,?_,by simp;omega,fun f x hx=>?_⟩
   . rw[BW];show st.rev+1<=i+1;omega
   . by_cases hfi:f=bX i
     . exact⟨i,by omega,hfi⟩
     . have hx':st.files f=some x:=by
        have:(({st with began:=[]}:St V).setF (bX i) t).files f=if f=bX i then some t else st.files f:=rfl
        rw[this,if_neg hfi] at hx;exact hx
       obtain⟨j,hj,e⟩:=h6 f x hx';exact⟨j,by omega,e⟩
 . obtain⟨L',fm',hE,hF⟩:=hp
   exact⟨_,L',fm',fs,hE,hF,h3.beg,by show st.rev<=i+1;omega,by omega,fun f x hx=>by
    obtain⟨j,hj,e⟩:=h6 f x hx;exact⟨j,by omega,e⟩⟩
def yG(W0:World):Prop:=∀(bs:Nat) (fm:Value) (n:Nat),sA W0 (pC wp (.s dA) n) bs fm
theorem Fp:mA 7 zF qN=0:=by kernel_rfl
theorem LZ{W1 w:World}{bs:Nat}{fm:Value}{L:aM}(hp:PT W1.heap.size W1)(he:yG W1)(hE:bN (({gS with began:=[]}:St V).setF zF dG) L none bs fm w)(hF:qR W1 ([] ++ [(zF,dG)]) (({gS with began:=[]}:St V).setF zF dG).files L fm w) :
 Calls Tryz.prog 9 #[ptr bs,.int .i64 7,.string zF,.string qN] w fun e w'=>e = .returned (.tuple #[.string ⟨#[49,48]⟩,.int .i64 0])/\Below W1.heap.size W1 w':=by
 obtain⟨v,hv⟩:=uW nF;have hfile:(({gS with began:=[]}:St V).setF zF dG).files=nF:=rfl;have hw:Aj W1 bs fm nF v 0 (({gS with began:=[]}:St V).setF zF dG) w:=(D6.beg.setF zF dG).well (v:=v) hE hF;refine (Ot ⟨hp,he,Ie,hv⟩ (by decide) hw Fp).mono ?_;rintro e w'⟨rfl,st',h1,_⟩;refine⟨?_,h1.low⟩;have:qK 7 zF qN=⟨7,zF,qN⟩:=rfl
 rw[this,E2 hv];rfl
theorem Dd:eM zF=true:=by kernel_rfl
theorem o6:dG.size<=400:=by decide
theorem Is{W1:World}:Calls Tryz.prog 18 #[.pointer (some ⟨W1.heap.size,0,none⟩),.string zF,.string dG] (W1.alloc kU) fun e w'=>e = .returned (.int .i64 0)/\∃L fm,bN (({gS with began:=[]}:St V).setF zF dG) L none W1.heap.size fm w'/\qR W1 ([] ++ [(zF,dG)]) (({gS with began:=[]}:St V).setF zF dG).files L fm w':=by
 obtain⟨hE,hF⟩:=D5 (W0:=W1) (aI W1 kU) (aG W1 kU) (Nat.le_refl _);refine (LY hE hF Dd rfl (Nat.zero_le _) (by decide) (by unfold maxLen;have:=o6;omega)).mono ?_;rintro e w'⟨rfl,hp⟩;rw[if_pos o6];unfold nH at hp;rw[if_pos o6] at hp;exact⟨rfl,hp⟩
end Go.Proofs.YthibodlojlkppaaGreatDoor

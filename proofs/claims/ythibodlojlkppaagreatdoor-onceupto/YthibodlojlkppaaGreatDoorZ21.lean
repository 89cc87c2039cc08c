import Derived.Test.YthibodlojlkppaaGreatDoorZ20
set_option linter.all false
set_option maxRecDepth 100000
set_option maxHeartbeats 40000000
namespace Go.Proofs.YthibodlojlkppaaGreatDoor
open Go.RowKit
variable [DecidableEq K] [LawfulBEq Lk]
structure OW (W1:World) (bs:Nat) (fm:Value) (F:eV) (v:ByteArray->ByteArray->ByteArray) (i:Nat) (al:Value) (wh:Bool) (w:World):Prop where
 ex:∃(st:St V) (L:aM) (ks:List K),iO W1 bs fm F v i st L w/\w.ownsRow W1.heap.size 9 1 al ks.length (nJ ks)/\(∀g,al.ownBlock=some g->¬L.own g)/\(∀k∈ks,G5 k)/\ks.length<=175*i/\(ks = []->al = .slice none 0 0)/\(wh=true->ks.Nodup/\∀x∈ks,x∈st.kept)
structure K2 (W1:World) (bs:Nat) (fm:Value) (F:eV) (v:ByteArray->ByteArray->ByteArray) (i:Nat) (al:Value) (wh:Bool) (rn:Value) (w:World):Prop where
 ex:∃(st:St V) (L:aM) (ks bg:List K) (B:Nat),iO W1 bs fm F v (i+1) st L w/\w.ownsRow W1.heap.size 9 1 al ks.length (nJ ks)/\(∀g,al.ownBlock=some g->¬L.own g/\g<B)/\(∀k∈ks,G5 k)/\ks.length<=175*i/\(ks = []->al = .slice none 0 0)/\w.ownsRow B 9 1 rn bg.length (nJ bg)/\W1.heap.size<=B/\bg.Nodup/\(∀k∈bg,G5 k)/\(wh=true->st.kept.length<40->(ks++bg).Nodup/\∀x∈ks++bg,x∈st.kept)
structure Av (W1:World) (bs:Nat) (fm:Value) (F:eV) (v:ByteArray->ByteArray->ByteArray) (i:Nat) (al:Value) (wh:Bool) (rn:Value) (kn:Nat) (w:World):Prop where
 ex:∃(st:St V) (L:aM) (ks bg:List K) (B:Nat),iO W1 bs fm F v (i+1) st L w/\st.kept.length=kn/\w.ownsRow W1.heap.size 9 1 al ks.length (nJ ks)/\(∀g,al.ownBlock=some g->¬L.own g)/\(∀k∈ks,G5 k)/\ks.length<=175*(i+1)/\(ks = []->al = .slice none 0 0)/\w.ownsRow B 9 1 rn bg.length (nJ bg)/\bg.Nodup/\(∀k∈bg,G5 k)/\(wh=true->kn<40->ks.Nodup/\∀x∈ks,x∈st.kept)
section
variable {W1:World} {bs:Nat} {fm:Value} {F:eV} {v:ByteArray->ByteArray->ByteArray} {i kn:Nat} {al rn:Value} {wh:Bool} {w w':World} {l:List Int}
theorem OW.low(h:OW W1 bs fm F v i al wh w):Below W1.heap.size W1 w:=by
 obtain⟨st,L,ks,h1,_⟩:=h.ex;exact h1.at'.m.low
theorem OW.below(h:OW W1 bs fm F v i al wh w)(hb:Below w.heap.size w w'):OW W1 bs fm F v i al wh w':=by
 obtain⟨st,L,ks,h1,h2,h3⟩:=h.ex;exact⟨st,L,ks,h1.below hb,jH h2 hb,h3⟩
theorem OW.asked(h:OW W1 bs fm F v i al wh w)(hc:OI W1 l F v)(hi:i<3000000){q k:Nat}(hq:q<8)(hk:k<10) :
 Calls Tryz.prog 13 #[ptr bs,.agg #[.int .i64 (1+(q:Int)),.string (bX (k / 2)),.string (fC k)]] w fun e w'=>∃t a m c,e = .returned (.tuple #[.string t,.int .i64 0,.slice a m c])/\K2 W1 bs fm F v i al wh (.slice a m c) w':=by
 obtain⟨st,L,ks,h1,h2,h3,h4,h5,h6,h7⟩:=h.ex;refine (NC hc.fi hc.md hi h1 (OJ hq hk) (NO hq hk)).mono ?_;rintro e w'⟨a,m,c,rfl,st',L',hw,hfr,hown,ho,hm,B,hB,hB2,hr⟩;refine⟨_,a,m,c,rfl,st',L',ks,st'.began,B,hw,bJ h2 fun g hg=>hfr.block g (h2.lt g hg).2 (h3 g hg),fun g hg=>⟨fun e=>?_,?_⟩,h4,h5,h6,hr,?_,ho.nd,fun x hx=>(ho.new x hx).2,fun hwh hl=>?_⟩
 . rcases hown g e with e1|e1
   . exact h3 g hg e1
   . have:=(h2.lt g hg).2;omega
 . have:=(h2.lt g hg).2;omega
 . have:=h1.at'.m.low.size;omega
 . obtain⟨n1,n2⟩:=h7 hwh
   obtain⟨k1,k2⟩:=ho.kept hl;refine⟨List.nodup_append.2 ⟨n1,ho.nd,fun x hx y hy e=>(ho.new y hy).1 (e ▸ n2 x hx)⟩,fun x hx=>?_⟩;rcases List.mem_append.1 hx with hx|hx
   . exact k2 x (n2 x hx)
   . exact k1 x hx
theorem K2.below(h:K2 W1 bs fm F v i al wh rn w)(hb:Below w.heap.size w w'):K2 W1 bs fm F v i al wh rn w':=by
 obtain⟨st,L,ks,bg,B,h1,h2,h3,h4,h5,h6,h7,h8⟩:=h.ex;exact⟨st,L,ks,bg,B,h1.below hb,jH h2 hb,h3,h4,h5,h6,jH h7 hb,h8⟩
theorem K2.noth(h:K2 W1 bs fm F v i al wh rn w)(h0:rn = .slice none 0 0):∃kn,kn<=40/\Av W1 bs fm F v i al wh rn kn w:=by
 obtain⟨st,L,ks,bg,B,h1,h2,h3,h4,h5,h6,h7,h8,h9,h10,h11⟩:=h.ex;have hbg:bg = []:=by
  have h7':=h7;obtain⟨_,⟨e1,e2⟩|⟨g,c,cur,e1,_⟩⟩:=h7'
  . exact List.length_eq_zero_iff.1 e2
  . rw[h0] at e1;injection e1 with e1 _ _;cases e1
 subst hbg;refine⟨st.kept.length,h1.kept,st,L,ks,[],B,h1,rfl,h2,fun g hg=>(h3 g hg).1,h4,by omega,h6,h7,h9,h10,fun a b=>?_⟩;have:=h11 a b
 rwa[List.append_nil] at this
theorem K2.push(h:K2 W1 bs fm F v i al wh rn w):∃(ks bg:List K),w.ownsRow W1.heap.size 9 1 al ks.length (nJ ks)/\ks.length<=175*i/\bg.length<=175/\W1.heap.size<=w.heap.size/\(∃B,w.ownsRow B 9 1 rn bg.length (nJ bg))/\
 ∀al' w',w'.ownsRow W1.heap.size 9 1 al' (ks.length+bg.length) (nJ ks++nJ bg)->w.grownBy w' al.ownBlock->(al' = .slice none 0 0↔al = .slice none 0 0/\bg.length=0)->(al'.ownBlock=al.ownBlock\/al'.ownBlock=some w.heap.size)->∃kn,kn<=40/\Av W1 bs fm F v i al' wh rn kn w':=by
 obtain⟨st,L,ks,bg,B,h1,h2,h3,h4,h5,h6,h7,h8,h9,h10,h11⟩:=h.ex;refine⟨ks,bg,h2,h5,Dl h9 h10,h1.at'.m.low.size,⟨B,h7⟩,fun al' w' hown hg hiff hloc=>⟨st.kept.length,h1.kept,st,L,ks++bg,bg,B,?_,rfl,?_,fun g hgb e=>?_,fun x hx=>?_,?_,fun hnil=>?_,?_,h9,h10,h11⟩⟩
 . cases hb:al.ownBlock with
   | none=>
    rw[hb] at hg;exact h1.below ⟨hg.os,hg.tape,hg.output,hg.size,fun b hbl=>hg.block b hbl (by simp)⟩
   | some g=>
    have hne:ks ≠ []:=fun e=>by rw[h6 e] at hb;simp[Value.ownBlock] at hb
    obtain⟨k0,r,rfl⟩:∃k0 r,ks=k0::r:=by
     cases ks with
     | nil=>exact absurd rfl hne
     | cons k0 r=>exact⟨k0,r,rfl⟩
    have h2':=h2;obtain⟨_,⟨e1,e2⟩|⟨g',c,cur,e1,e2,e3,e4,e5,e6⟩⟩:=h2'
    . simp at e2
    . rw[e1] at hb
      simp[Value.ownBlock] at hb;subst hb;refine h1.frS e3 (k0:=k0) ?_ (h2.lt g' (by rw[e1];rfl)).1 ((FR.refl _ w).grown hg fun x e=>.inl (by rw[e1] at e;simp[Value.ownBlock] at e;exact e.symm));rw[<-Array.getElem?_toList];exact cX (xs:=nJ (k0::r)) (by simpa using e6.2) rfl
 . rw[List.length_append]
   show w'.ownsRow _ _ _ _ _ ((ks++bg).map _);rw[List.map_append];exact hown
 . rcases hloc with e1|e1
   . exact (h3 g (e1 ▸ hgb)).1 e
   . rw[e1] at hgb
     injection hgb with hgb;have:=h1.own_lt e
     omega
 . rcases List.mem_append.1 hx with hx|hx
   . exact h4 x hx
   . exact h10 x hx
 . have:=Dl h9 h10
   rw[List.length_append];omega
 . rw[List.append_eq_nil_iff] at hnil
   exact hiff.2 ⟨h6 hnil.1,by rw[hnil.2];rfl⟩
 . exact bJ h7 fun g hgb=>hg.block g (h7.lt g hgb).2 fun e=>by
    have a1:=(h3 g e.symm).2;have a2:=(h7.lt g hgb).1;omega
theorem Av.below(h:Av W1 bs fm F v i al wh rn kn w)(hb:Below w.heap.size w w'):Av W1 bs fm F v i al wh rn kn w':=by
 obtain⟨st,L,ks,bg,B,h1,h2,h3,h4,h5,h6,h7,h8,h9⟩:=h.ex;exact⟨st,L,ks,bg,B,h1.below hb,h2,jH h3 hb,h4,h5,h6,h7,jH h8 hb,h9⟩
theorem Av.look(h:Av W1 bs fm F v i al wh rn kn w):Calls Tryz.prog 14 #[ptr bs] w fun e w'=>∃r nf:Int,e = .returned (.agg #[.int .i64 r,.int .i64 nf,.int .i64 kn])/\Av W1 bs fm F v i al wh rn kn w':=by
 have h0:=h;obtain⟨st,L,ks,bg,B,h1,h2,_⟩:=h.ex;refine (Nn h1.at'.e h1.at'.m).mono ?_;rintro e w'⟨nf,rfl,hb⟩;exact⟨_,nf,by rw[h2],h0.below hb⟩
theorem Av.one(h:Av W1 bs fm F v i al wh rn kn w):Calls Tryz.prog 15 #[rn] w fun e w'=>e = .returned (.bool false)/\Av W1 bs fm F v i al wh rn kn w'/\Below w.heap.size w w':=by
 have h0:=h;obtain⟨st,L,ks,bg,B,h1,h2,h3,h4,h5,h6,h7,h8,h9,h10,h11⟩:=h.ex;have hl:=Dl h9 h10;obtain⟨a,c,rfl,hT⟩:=Ed h8 h10 (by omega);refine (I4 hT).mono ?_;rintro e w'⟨⟨b,rfl,hb⟩,hbl⟩;exact⟨by rw[hb (wE h9 h10)],h0.below hbl,hbl⟩
theorem Av.many(h:Av W1 bs fm F v i al wh rn kn w)(hi:i<1048576):Calls Tryz.prog 15 #[al] w fun e w'=>∃b:Bool,e = .returned (.bool b)/\(wh=true->kn<40->b=false)/\Av W1 bs fm F v i al wh rn kn w':=by
 have h0:=h;obtain⟨st,L,ks,bg,B,h1,h2,h3,h4,h5,h6,h7,h8,h9,h10,h11⟩:=h.ex;obtain⟨a,c,rfl,hT⟩:=Ed h3 h5 (by omega);refine (I4 hT).mono ?_;rintro e w'⟨⟨b,rfl,hb⟩,hbl⟩;exact⟨b,rfl,fun x y=>hb (wE (h11 x y).1 h5),h0.below hbl⟩
theorem Av.next(h:Av W1 bs fm F v i al wh rn kn w)(wh':Bool)(hwh:wh'=true->wh=true/\kn<40):OW W1 bs fm F v (i+1) al wh' w:=by
 obtain⟨st,L,ks,bg,B,h1,h2,h3,h4,h5,h6,h7,h8,h9,h10,h11⟩:=h.ex;exact⟨st,L,ks,h1,h3,h4,h5,h6,h7,fun e=>h11 (hwh e).1 (hwh e).2⟩
theorem OW.shape(h:OW W1 bs fm F v i al wh w):∃a n c,al = .slice a n c:=by
 obtain⟨st,L,ks,h1,h2,_⟩:=h.ex;obtain⟨_,⟨e1,e2⟩|⟨g,c,cur,e1,_⟩⟩:=h2
 . exact⟨_,_,_,e1⟩
 . exact⟨_,_,_,e1⟩
theorem Av.shape(h:Av W1 bs fm F v i al wh rn kn w):∃a n c,al = .slice a n c:=by
 obtain⟨st,L,ks,bg,B,h1,h2,h3,_⟩:=h.ex;obtain⟨_,⟨e1,e2⟩|⟨g,c,cur,e1,_⟩⟩:=h3
 . exact⟨_,_,_,e1⟩
 . exact⟨_,_,_,e1⟩
end
theorem FA.wellO{W:World}{bs:Nat}{l:List Int}{w:World}(h:FA W bs (o8 l) 5 w)(hp:PT W.heap.size W)(he:yG W) :
 ∃F v fm,OI W l F v/\OW W bs fm F v 0 (.slice none 0 0) true w:=by
 obtain⟨st,L,fm,fs,h1,h2,h3,_,_,h6,h7⟩:=h.ex;obtain⟨v,hv⟩:=uW st.files;have hw:=h3.well (v:=v) h1 h2;refine⟨st.files,v,fm,⟨⟨hp,he,⟨fun f x hx=>?_,by decide,fun f hf=>?_⟩,hv⟩,KC fun i hi=>?_⟩,st,L,[],⟨⟨h1,h2.files⟩,hw.inv,hw.idle,hw.beg,hw.kept,hw.uses⟩,World.ownsRow_nil _ _ _ _,fun g hg=>by simp[Value.ownBlock] at hg,fun k hk=>by simp at hk,Nat.zero_le _,fun _=>rfl,fun _=>⟨List.nodup_nil,fun x hx=>by simp at hx⟩⟩
 . obtain⟨j,hj,rfl⟩:=h6 f x hx
   exact⟨I5 (by omega),h2.sz _ _ hx⟩
 . obtain⟨j,hj,rfl⟩:=List.mem_map.1 hf
   show (1:Nat)<=400;decide
 . exact (h7 i hi).trans (wD l hi)
theorem I9{w:World}{ops:Array Oper}{rest:List Oper}{o:Oper}{a:Act}{Q:Exit->Act->World->Prop}(hgd:o.guard=none)(s x:Operand)(t:TypeId)
 (ho:o.op = .call {callee:=.builtin .append,args:=#[s,x],argTypes:=#[t,t]}) (base:Nat) (e:TypeId) (i:TypeInfo) (size:Nat) (ht:Tryz.prog.underlying t=some (.slice e)) (hi:Tryz.prog.info? e=some i)
 (v:Value) (n:Nat) (xs:List Value) (hs:a.eval s=v) (hown:w.ownsRow base e size v n xs) (hx:a.eval x = .slice none 0 0) (h:wpList Tryz.prog ops Q rest (a.put o.dst v) w):wpList Tryz.prog ops Q (o::rest) a w:=by
 refine wpList_plain hgd fun K hK=>?_;have hr:=run_append_owned_none (P:=Tryz.prog) (w:=w) base t o.type e i size ht hi v n xs hown;unfold Oper.wp execOp;simp only[ho,resolve,invoke,builtin,Sem.run_bind,Sem.run_pure,Result.andThen_ok,List.map_toArray,List.map_cons,List.map_nil,hs,hx,hr];exact hK _ _ h
theorem KF(n:Int):ND (wrap64 n):=by unfold ND wrap64;omega
theorem NP{W:World}{na oa:Option Addr}{l ol:List Int}{nc oc:Nat}(hl:mE W na l)(ho:mE W oa ol)(hp:PT W.heap.size W)(he:∀W1,Below W.heap.size W W1->yG W1) :
 Calls Tryz.prog 5 #[.agg #[.slice na l.length nc],.slice oa ol.length oc] W fun e w'=>e = .returned (.bool true)/\Below W.heap.size W w':=by
 have hb2:=aG W (.cells #[.slice na l.length nc] 24);have HB2:=hid hb2;have hp2:=mJ hp hb2;have ho2:=ho.below hb2;have HM:=hid (NN (nc:=nc) (hl.below hb2) hp2);have he2:∀W1,Below (W.alloc (.cells #[.slice na l.length nc] 24)).heap.size (W.alloc (.cells #[.slice na l.length nc] 24)) W1->yG W1:=fun W1 h1=>he W1 (aF hb2 h1);clear hl hp ho he hb2;obtain⟨m,hm⟩:∃m,m=l.length:=⟨_,rfl⟩
 rw[<-hm] at HM he2 hp2 ho2 HB2 ⊢;obtain⟨W2,hW2⟩:∃W2,W2=W.alloc (.cells #[.slice na m nc] 24):=⟨_,rfl⟩
 rw[<-hW2] at HM he2 hp2 ho2 HB2;have HB:Hid (∀(w1:World) (ta va:Option Addr) (tc vc i:Nat),rT W2 l (W2.heap.size+1) 5 10 i (.slice ta 5 tc) (.slice va 10 vc) w1->Below W2.heap.size W2 w1/\Calls Tryz.prog 7 #[.slice ta 5 tc] w1 fun e w2=>e = .returned (.tuple #[ptr w1.heap.size,.bool true])/\∃F v fm,OI w1 l F v/\OW w1 w1.heap.size fm F v 0 (.slice none 0 0) true w2):=hid (fun w1 ta va tc vc i h=>by
  refine⟨h.lo,?_⟩;have hb:=Mh (c:=tc) h.txs (pZ l) (by rw[mF];decide) (mJ hp2 h.lo) (fun W3 h3=>he2 W3 (aF h.lo h3));rw[mF] at hb;refine hb.mono ?_;rintro e w2⟨rfl,hg⟩;exact⟨rfl,hg.wellO (mJ hp2 h.lo) (he2 w1 h.lo)⟩)
 have HO:=hid ho2;obtain⟨n,hn⟩:∃n,n=ol.length:=⟨_,rfl⟩
 have hnm:(n:Int)<=1048576:=by have:=ho2.len;omega
 have hnn:n<=1048576:=by omega
 rw[<-hn];have HN:=hid hn;clear ho2 hp2 he2 hn hm;go_enter Tryz.func5,Tryz.ntmps5;go_wp2_with fail
 rw[<-hW2];refine HM.out.mono ?_;rintro e w1⟨ta,tc,va,vc,rfl,hmd⟩;obtain⟨hlo,hbg⟩:=HB.out _ _ _ _ _ _ hmd;have HLO:=hid hlo;have HBG:=hid hbg;clear hlo hbg hmd HM HB;go_wp2_with fail
 refine HBG.out.mono ?_;rintro e w2⟨rfl,F,v,fm,hc,hw⟩;have HC:=hid hc;have HW:=hid hw;clear hc hw HBG;generalize hbs:w1.heap.size=bs at HW ⊢;have HBS:=hid hbs;clear hbs;go_wp2;go_loopg [9,10,11] n (fun f v9 v10 v11 wr=>∃i,i+f=n/\v11 = .int .i64 (i:Nat)/\∃wh:Bool,v10 = .bool wh/\OW w1 bs fm F v i v9 wh wr)
 case atStart=>exact⟨0,by omega,rfl,true,rfl,HW.out⟩
 case round=>
  clear HW;obtain⟨i,hi,rfl,wh,rfl,hw⟩:=hrel;obtain⟨aa,an,ac,rfl⟩:=hw.shape;have HI:=hid hw;clear hw;have hi0:(0:Int)<=(i:Int):=by omega
  by_cases hin:i<n
  . have hin2:(i:Int)<(n:Int):=by omega
    obtain⟨c,hc⟩:∃c,ol[i]? = some c:=⟨_,List.getElem?_eq_getElem (by have:=HN.out;omega)⟩
    obtain⟨b,o,hao,hcell⟩:=HO.out.ex;obtain⟨rfl,hbl⟩:=hao (by have:=HN.out;omega);have hrng:=HO.out.rng c (List.mem_of_getElem? hc);have c0:wr.cell? ⟨b,o+i,none⟩=some (.int .i64 c):=aK (aF HLO.out HI.out.low) (hcell i c hc);have hk:=vZ c (n:=10) (by decide);have hq:=vZ (wrap64 (c.tdiv 10)) (n:=8) (by decide);have HPK:Hid (∀W,Calls Tryz.prog 8 #[.int .i64 c,.int .i64 10] W fun e w'=>e = .returned (.int .i64 (kN c 10:Nat))/\w'=W):=hid fun W=>Ea c hrng 10 (by decide) (by decide) W;have HPQ:Hid (∀W,Calls Tryz.prog 8 #[.int .i64 (wrap64 (c.tdiv 10)),.int .i64 8] W fun e w'=>e = .returned (.int .i64 (kN (wrap64 (c.tdiv 10)) 8:Nat))/\w'=W):=hid fun W=>Ea _ (KF _) 8 (by decide) (by decide) W;clear hc hcell hbl hao hin;generalize kN c 10=k at hk HPK;generalize kN (wrap64 (c.tdiv 10)) 8=q at hq HPQ;have HF1:Hid (∀W,Calls Tryz.prog 10 #[.int .i64 ((k:Int) / 2)] W fun e w'=>e = .returned (.string (bX (k / 2)))/\w'=W):=hid fun W=>I6 k hk W;have HN1:=hid fun W=>Eb k hk W;have HAS:=hid fun (W:World) (hW:OW w1 bs fm F v i (.slice aa an ac) wh W)=>hW.asked HC.out (by omega) hq hk;generalize bX (k / 2)=fl at HF1 HAS;generalize fC k=nm at HN1 HAS;have hk0:(0:Int)<=(k:Int):=by omega
    have hk9:(k:Int)<10:=by omega
    have hq0:(0:Int)<=(q:Int):=by omega
    have hq7:(q:Int)<8:=by omega
    go_wp2_with fail
    refine (HPK.out _).mono ?_;rintro e w3⟨rfl,rfl⟩;go_wp2_with fail
    refine (HPQ.out _).mono ?_;rintro e w4⟨rfl,rfl⟩;go_wp2_with fail
    refine (HF1.out _).mono ?_;rintro e w5⟨rfl,rfl⟩;go_wp2_with fail
    refine (HN1.out _).mono ?_;rintro e w6⟨rfl,rfl⟩;go_wp2_with fail
    refine (HAS.out _ HI.out).mono ?_;rintro e w7⟨t,ra,rm,rc,rfl,h7⟩;have HPU:=h7.push;obtain⟨ks,bg,hown,hkl,hbl,hsz,⟨B,hrow⟩,hpush⟩:=HPU;have HNO:=hid h7.noth;have HPS:=hid hpush;have HRW:=hid hrow;clear h7 c0 hpush;obtain⟨p0,hp0,hy0,hy1,hy2⟩:=info_parts vT;obtain⟨_,⟨e1,e2⟩|⟨g,cap,cur,e1,e3⟩⟩:=hrow;case' inl=>
     injection e1 with e1 e4 e5;subst e1 e4 e5;obtain⟨kn,hkn,h8⟩:=HNO.out rfl;obtain⟨xa,xn,xc,hx⟩:=h8.shape;injection hx with hx1 hx2 hx3;subst hx1 hx2 hx3;have H8:=hid h8;clear h8 hkl hbl hsz e2;go_wp2_with (at_builtin;go_must (refine I9 rfl _ _ 25 rfl w1.heap.size 9 p0 1 Tryz.underlying25 hp0 _ _ _ rfl hown rfl ?_))
     clear hown;go_wp2_with fail
    case' inr=>
     injection e1 with e1 e4 e5;subst e1 e4 e5;have hi3:i<=1048576:=by omega
     clear e3;have hnews:∀(j:Nat) (u:Value),(nJ bg)[j]? = some u->w7.cell? ((⟨g,0,none⟩:Addr).add j)=some u:=fun j u hj=>by
      have hj':j<bg.length:=by have:=(List.getElem?_eq_some_iff.1 hj).1;simpa[nJ] using this
      rw[Go.WideShapes.add_plain,Nat.zero_add,HRW.out.cellAt j (by omega)];simpa using hj
     have hone:∀u∈nJ bg,u.oneCell'=true:=fun u hu=>by
      obtain⟨x,_,rfl⟩:=List.mem_map.1 hu;rfl
     go_wp2_with (at_builtin;go_must (refine wpList_append_own_at _ rfl _ _ 25 rfl w1.heap.size 9 p0 (.string bA) 1 16 Tryz.underlying25 hp0 hy0 hy1 hy2 rfl (by decide) _ _ _ rfl hown ⟨g,0,none⟩ bg.length rc (nJ bg) rfl ?_ hnews hone ?_ ?_ hsz ?_))
     all_goals first
      | (simp[nJ];done)
      | (unfold maxLen;omega)
      | omega
      | skip
     intro al' w8 hown' hgrow hiff hloc;obtain⟨kn,hkn,h8⟩:=HPS.out al' w8 hown' hgrow (by simpa using hiff) hloc;obtain⟨xa,xn,xc,rfl⟩:=h8.shape;have H8:=hid h8;clear h8 hown' hgrow hiff hloc hown hnews hone hkl hbl hsz;go_wp2_with fail
    all_goals
     have hk41:¬((40:Int)<(kn:Int)):=by omega
     refine H8.out.look.mono ?_;rintro e w9⟨r,nf,rfl,h9⟩;have H9:=hid (h9.below (aG w9 (.cells #[.int .i64 r,.int .i64 nf,.int .i64 kn] 43)));have cx:(w9.alloc (.cells #[.int .i64 r,.int .i64 nf,.int .i64 kn] 43)).cell? ⟨w9.heap.size,2,none⟩=some (.int .i64 kn):=by
      rw[aA (aI w9 _)];rfl
     have CX:=hid cx;clear h9 cx;by_cases hk40:kn<40
    all_goals first
     | have hk42:(kn:Int)<40:=by omega
     | have hk42:¬((kn:Int)<40):=by omega
    all_goals
     cases wh
    all_goals
     go_wp2_with fail
     refine H9.out.one.mono ?_;rintro e w10⟨rfl,h10,hb10⟩;have H10:=hid h10;have cx:w10.cell? ⟨w9.heap.size,2,none⟩=some (.int .i64 kn):=aK hb10 CX.out;clear h10 hb10;go_wp2_with fail
     refine (H10.out.many (by omega)).mono ?_;rintro e w11⟨b2,rfl,hb2,h11⟩;have H11:=hid h11;have HB3:=hid hb2;clear h11 hb2 cx
    all_goals first
     | (obtain rfl:b2=false:=HB3.out rfl hk40
        go_wp2;go_roundg (n-(i+1))
        all_goals first
         | exact⟨i+1,by omega,by go_num,true,rfl,H11.out.next true fun _=>⟨rfl,hk40⟩⟩
         | omega)
     | (go_wp2
        go_roundg (n-(i+1))
        all_goals first
         | exact⟨i+1,by omega,by go_num,false,rfl,H11.out.next false fun e=>absurd e (by decide)⟩
         | omega)
  . have hin2:¬((i:Int)<(n:Int)):=by omega
    go_wp2;go_ret;exact⟨rfl,aF HB2.out (aF HLO.out HI.out.low)⟩
end Go.Proofs.YthibodlojlkppaaGreatDoor

import Derived.Test.YthibodlojlkppaaGreatDoorZ19
set_option linter.all false
set_option maxRecDepth 100000
set_option maxHeartbeats 40000000
namespace Go.Proofs.YthibodlojlkppaaGreatDoor
open Go.RowKit
variable [DecidableEq K] [LawfulBEq Lk]
theorem Md{k:K}:TB k≠9:=by
 unfold TB;repeat' split
 all_goals decide
theorem Aq{t:ByteArray}(h:bR t=true):(32:UInt8)∉t.data.toList:=fun hx=>by
 unfold bR at h;simp only[Bool.and_eq_true,decide_eq_true_eq,beq_iff_eq] at h;have hr:=h.1.2;have hl:t.data.toList.length=t.size:=by simp
 have key:∀l:List UInt8,jI bI l=l.length->∀x∈l,bI x.toNat=true:=by
  intro l;induction l with
  | nil=>intro _ x hx;simp at hx
  | cons c r ih=>
   intro he x hx;cases hc:bI c.toNat with
   | false=>unfold jI at he;simp[List.takeWhile,hc] at he
   | true=>
    have he':jI bI r=r.length:=by
     unfold jI at he ⊢;simp only[List.takeWhile,hc,List.length_cons] at he;omega
    rcases List.mem_cons.1 hx with rfl|hx
    . exact hc
    . exact ih he' x hx
 have:=key _ (by omega) _ hx
 exact absurd this (by decide)
theorem Dk(k:K):(32:UInt8)∈(gM k).data.toList:=by
 unfold gM;split <;> simp[ByteArray.data_append]
theorem IV{s x:ByteArray}(h:x∈iQ (bY (aN s)).1):(32:UInt8)∉x.data.toList:=by
 unfold iQ at h;obtain⟨y,hy,rfl⟩:=List.mem_map.1 h;have h1:=rQ _ hy;rw[List.mem_mergeSort] at h1;unfold mP at h1;obtain⟨i,hi,rfl⟩:=List.mem_map.1 h1;have h2:=Aq ((dS (aN s)).1 i (List.mem_filter.1 hi).1).name.1;simpa using h2
theorem bO.frS{O:Nat->Prop}{w w':World}{kind g:Nat}{x:Option V}{vs:List Value}{cs0:Array Value}{k0:K}(h:bO O w kind x vs)(hg:w.heap[g]? = some (.cells cs0 9))(h0:cs0[0]? = some (.string (gM k0)))
 (hk:∀(b:Nat) (o:Obj),b≠g->w.heap[b]? = some o->w'.heap[b]? = some o) (hc:∀(b:Nat) (cs:Array Value) (T:TypeId),T≠9->w.heap[b]? = some (.cells cs T)->w'.heap[b]? = some (.cells cs T)):bO O w' kind x vs:=by
 match x,h with
 | some (.inl l),⟨a,v,b,c⟩=>exact⟨a,v,b,c.keepT fun b cs=>hc b cs _ (by decide)⟩
 | some (.inr (.inl (its,f))),⟨a,v,b,c⟩=>exact⟨a,v,b,c.keepT fun b cs=>hc b cs _ (by decide)⟩
 | some (.inr (.inr (.inl l))),⟨⟨a,s,hs,hl⟩,v,b,ao,c',hv,hc',hr⟩=>
  refine⟨⟨a,s,hs,hl⟩,v,b,ao,c',hv,hc',fun hn=>?_⟩;obtain⟨g',cur,h1,h2,h3,h4⟩:=hr hn;refine⟨g',cur,h1,h2,hk g' _ (fun e=>?_) h3,h4⟩;rw[e,hg] at h3;injection h3 with h3;injection h3 with h3 _;subst h3;obtain⟨y,r,rfl⟩:∃y r,l=y::r:=by
   cases l with
   | nil=>simp at hn
   | cons y r=>exact⟨y,r,rfl⟩
  have h5:cs0.toList.head? = some (.string y):=by
   have h6:=congrArg List.head? h4;rw[List.head?_take] at h6;simpa using h6
  rw[<-Array.getElem?_toList,<-List.head?_eq_getElem?,h5] at h0;injection h0 with h0;injection h0 with h0;exact IV (s:=s) (hl ▸ List.mem_cons_self ..) (h0 ▸ Dk k0)
 | some (.inr (.inr (.inr b))),h=>exact h
 | none,h=>exact h
theorem bN.frS{st:St V}{L:aM}{bs g:Nat}{fm:Value}{w w':World}{cs0:Array Value}{k0:K}(h:bN st L none bs fm w)(hg:w.heap[g]? = some (.cells cs0 9))(h0:cs0[0]? = some (.string (gM k0)))(hf:FR (· = g) w w'):bN st L none bs fm w':=by
 obtain⟨q,sm,bg,kv,arr,h⟩:=h;have hk:∀(b:Nat) (o:Obj),b≠g->w.heap[b]? = some o->w'.heap[b]? = some o:=fun b o hb hbo=>hf.heap hbo hb;have hc:∀(b:Nat) (cs:Array Value) (T:TypeId),T≠9->w.heap[b]? = some (.cells cs T)->w'.heap[b]? = some (.cells cs T):=fun b cs T hT hb=>hk b _ (fun e=>by rw[e,hg] at hb;injection hb with hb;injection hb with _ hb;exact hT hb.symm) hb;have hm:∀(b:Nat) (es:Array MapEntry) (n:Nat),w.heap[b]? = some (.map es n)->w'.heap[b]? = some (.map es n):=fun b es n hb=>hk b _ (fun e=>by rw[e,hg] at hb;injection hb with hb;cases hb) hb;refine⟨q,sm,bg,kv,arr,⟨⟨hc _ _ _ (by decide) h.s,h.bo,fun b hbo=>Nat.lt_of_lt_of_le (h.olt b hbo) hf.size,h.sr.keep hm,fun f c hfc=>⟨(h.srb f c hfc).1,hc _ _ _ (by decide) (h.srb f c hfc).2⟩,h.sri,h.qm,h.sm.keep hm,h.bg.keep fun b cs=>hc b cs _ (by decide),h.kv.keep fun b cs=>hc b cs _ (by decide),h.perm,h.nd,h.kl,h.ex,fun j n hj=>?_⟩,h.heap⟩⟩;have hcl:=h.cell j n hj;obtain⟨x,vs,a,c⟩:=hcl.ex;exact⟨⟨x,vs,hc _ _ _ Md a,c.frS hg h0 hk hc⟩,hcl.own⟩
theorem FM.frS{W0:World}{F:ByteArray->Option ByteArray}{L:aM}{fm:Value}{w w':World}{g:Nat}{cs0:Array Value}(h:FM W0 F L fm w)(hg:w.heap[g]? = some (.cells cs0 9))(hg0:W0.heap.size<=g)(hf:FR (· = g) w w'):FM W0 F L fm w':=by
 refine⟨h.sm,h.mp.imp id ?_,⟨hf.os.trans h.low.os,hf.tape.trans h.low.tape,hf.output.trans h.low.output,Nat.le_trans h.low.size hf.size,fun k hk=>(hf.block k (Nat.lt_of_lt_of_le hk h.low.size) (by omega)).trans (h.low.block k hk)⟩,h.ow⟩;rintro⟨b,es,n,h1,h2,h3,h4⟩;exact⟨b,es,n,h1,h2,hf.heap h3 (fun e=>by rw[e,hg] at h3;injection h3 with h3;cases h3),h4⟩
theorem B2{α:Type}[BEq α][LawfulBEq α]:∀(l m:List α),l.Nodup->(∀x∈l,x∈m)->l.length<=m.length
 | [],_,_,_=>Nat.zero_le _
 | x::l,m,hn,hm=>by
  rw[List.nodup_cons] at hn;have hx:=hm x (by simp);have ih:=B2 l (m.erase x) hn.2 fun y hy=>(List.mem_erase_of_ne (fun e=>hn.1 (by rw[<-e];exact hy))).2 (hm y (List.mem_cons_of_mem _ hy));rw[List.length_erase_of_mem hx] at ih;have:0<m.length:=List.length_pos_of_mem hx
  simp only[List.length_cons];omega
theorem Dl{l:List K}(hn:l.Nodup)(hg:∀x∈l,G5 x):l.length<=175:=by
 have h:=B2 l (Kv.map Dj) hn fun x hx=>by
  obtain⟨y,hy,rfl⟩:=Ap (hg x hx);exact List.mem_map.2 ⟨y,hy,rfl⟩
 rw[List.length_map] at h;have h5:Kv.length=175:=by decide
 omega
section
variable {W0:World} {bs:Nat} {fm:Value} {st:St V} {L:aM} {w:World}
theorem IW(h:At W0 bs fm st L w)(kind:Int)(f nm:ByteArray)(hr:mA kind f nm=0){t:ByteArray}(ht:t.size<=1099511627776){st1:St V}
 (hw:∀w1,At W0 bs fm {st with began:=[]} L w1->Calls Tryz.prog 21 #[ptr bs,.int .i64 kind,.string f,.string nm] w1 fun e w'=>e = .returned (.string t)/\jZ W0 bs fm {st with began:=[]} L w1 st1 w') :
 Calls Tryz.prog 9 #[ptr bs,.int .i64 kind,.string f,.string nm] w fun e w'=>e = .returned (.tuple #[.string t,.int .i64 0])/\∃st2 L2,eR 40 st1 st2/\At W0 bs fm st2 L2 w'/\FR L.own w w'/\∀b,L2.own b->L.own b\/w.heap.size<=b:=by
 have HB:=hid (CW h.e);have HA:=hid h;have HC:=hid (fun W=>xZ kind f nm W);rw[hr] at HC;have HW:=hid hw;clear h hr hw;go_enter Tryz.func9,Tryz.ntmps9;go_wp2_with fail
 refine HB.out.mono ?_;rintro e w1⟨rfl,hh⟩;have H1:=hid (And.intro (HA.out.next hh.out.1 hh.out.2 rfl) hh.out.2);clear hh;go_wp2_with fail
 refine (HC.out w1).mono ?_;rintro e w2⟨rfl,rfl⟩;go_wp2_with fail
 refine (HW.out _ H1.out.1).mono ?_;rintro e w3⟨rfl,⟨L3,hE3,hM3,hN3⟩⟩;have H3:=hid (And.intro (show At W0 bs fm st1 L3 w3 from ⟨hE3,hM3⟩) (H1.out.2.trans hN3));clear hE3 hM3 hN3;go_wp2_with fail
 refine (KR H3.out.1.e).mono ?_;rintro e w4⟨rfl,st2,hd,hE4,hF4⟩;have H4:=hid (show eR 40 st1 st2/\At W0 bs fm st2 L3 w4/\FR L.own w w4 from ⟨hd,H3.out.1.next hE4 (vQ hd hF4) (oY hd).1,H3.out.2.fr.trans hF4 fun i hi=>H3.out.2.own i hi⟩);clear hd hE4 hF4;go_wp2_with fail
 refine (dJ t w4 ht).mono ?_;rintro e w5⟨rfl,hb⟩;have HB5:=hid hb;clear hb;go_wp2;go_ret2;exact⟨rfl,st2,L3,H4.out.1,H4.out.2.1.below HB5.out,H4.out.2.2.trans (O':=fun _=>False) (FR.of_below HB5.out) fun _ x=>x.elim,H3.out.2.own⟩
end
theorem Fw{F:eV}{a:K->V}{st st':St V}(hd:eR 40 st st'):Inv F a st->st'.kept.length<40->st'=st:=by
 refine eR.ind (P:=fun st st'=>Inv F a st->st'.kept.length<40->st'=st) ?_ ?_ hd
 . exact fun _ _ _ _=>rfl
 . intro st st' k h1 h2 _ ih hi hl
   obtain⟨a1,_,_,_,a5,_,_⟩:=hi.drop h2;have e:=ih a1 hl;rw[e,a5,List.length_erase_of_mem h2] at hl;omega
structure iO (W0:World) (bs:Nat) (fm:Value) (F:eV) (v:ByteArray->ByteArray->ByteArray) (n:Nat) (st:St V) (L:aM) (w:World):Prop where
 at':At W0 bs fm st L w
 inv:Inv F (bQ F v) st
 idle:ER st
 beg:dQ st
 kept:st.kept.length<=40
 uses:st.uses<=n*6081550565377
structure Kw (st st':St V):Prop where
 nd:st'.began.Nodup
 new:∀x∈st'.began,x∉st.kept/\G5 x
 kept:st'.kept.length<40->(∀x∈st'.began,x∈st'.kept)/\∀x∈st.kept,x∈st'.kept
section
variable {W0:World} {bs:Nat} {fm:Value} {st:St V} {L:aM} {w:World} {F:eV} {v:ByteArray->ByteArray->ByteArray} {fs:List ByteArray} {n:Nat}
theorem iO.below(h:iO W0 bs fm F v n st L w){w':World}(hb:Below w.heap.size w w'):iO W0 bs fm F v n st L w':=⟨h.at'.below hb,h.inv,h.idle,h.beg,h.kept,h.uses⟩
theorem iO.frS(h:iO W0 bs fm F v n st L w){w':World}{g:Nat}{cs0:Array Value}{k0:K}(hg:w.heap[g]? = some (.cells cs0 9))(h0:cs0[0]? = some (.string (gM k0)))(hg0:W0.heap.size<=g)(hf:FR (· = g) w w'):iO W0 bs fm F v n st L w':=
 ⟨⟨h.at'.e.frS hg h0 hf,h.at'.m.frS hg hg0 hf⟩,h.inv,h.idle,h.beg,h.kept,h.uses⟩
theorem iO.own_lt(h:iO W0 bs fm F v n st L w){b:Nat}(hb:L.own b):b<w.heap.size:=by
 obtain⟨q,sm,bg,kv,arr,h1⟩:=h.at'.e;exact h1.olt b hb
theorem OE(hF:D4 W0 F v fs){E:Nat->PE}{V':Nat->Nat}(hM:Made F E V')(hn:n<3000000)(h:iO W0 bs fm F v n st L w){kind:Int}{f nm:ByteArray}(hr:mA kind f nm=0)(hg:G5 (qK kind f nm)) :
 Calls Tryz.prog 9 #[ptr bs,.int .i64 kind,.string f,.string nm] w fun e w'=>e = .returned (.tuple #[.string (kT (bQ F v (qK kind f nm))),.int .i64 0])/\∃st' L',iO W0 bs fm F v (n+1) st' L' w'/\FR L.own w w'/\(∀b,L'.own b->L.own b\/w.heap.size<=b)/\Kw st st':=by
 obtain⟨hk,hf8,hn8⟩:=yD hr;have hul:=D0 (F:=F) hF.ok f (qK kind f nm).name;have hS:=BI hF.vo (hF.ok.fault w);have hU:=Ic (v:=v) hF.ok w hF.vo (f0:=f) (n0:=(qK kind f nm).name) (by unfold cD;omega) (by unfold cD;omega);obtain⟨N,st1,hm,hq,hu⟩:=x5 (M:=5939014224) (nc:=true) hS hU (by decide) (Ip hk) h.inv h.idle (by have:=h.kept;unfold cD;omega) (by
  have h1:(1+(o0 F fs f (qK kind f nm).name).length)*(o0 F fs f (qK kind f nm).name).length<=(1+77064)*77064:=Nat.mul_le_mul (by omega) hul;omega) (by have:=h.uses;unfold j9;omega)
 have hE:dX W0 (pC wp (.s dA) N) bs fm:=⟨hF.eng bs fm N,kZ N⟩
 have hz:=BU (v:=v) w hF.ok hF.vo (k:=qK kind f nm) (by show f.size<=400;omega);obtain⟨o1,o2,o3⟩:=hM.ask_fr hF.vo (hF.ok.fault w) h.inv h.idle hg hm;refine (IW h.at' kind f nm hr hz (st1:=st1) fun w1 h1=>Io hF.pt hE h1 hr hm).mono ?_;rintro e w'⟨rfl,st2,L2,hd,hA2,hfr,hown⟩;have hK:=BE hd hq.inv;have hb:=pT (vH D2 N) hm (by show kind.toNat<=8;omega) (yE st);refine⟨rfl,st2,L2,⟨hA2,hK.inv,fun k=>(hK.act k).trans (hq.idle k),by unfold dQ;rw[hK.began];exact hb,hK.len,?_⟩,hfr,hown,⟨by rw[hK.began];exact o1,fun x hx=>?_,fun hl=>?_⟩⟩
 . rw[hK.uses]
   have:=h.uses
   omega
 . rw[hK.began] at hx
   exact⟨(o2 x hx).1,(o2 x hx).2.2⟩
 . have e:=Fw hd hq.inv hl
   rw[e];exact⟨fun x hx=>(o2 x hx).2.1,o3⟩
theorem Fx{w:World}{bs:Nat}{kind:Int}{f nm t:ByteArray}{Q:World->Prop}{R:Value->World->Prop}
 (HA:∀W,Below w.heap.size w W->Calls Tryz.prog 9 #[ptr bs,.int .i64 kind,.string f,.string nm] W fun e w'=>e = .returned (.tuple #[.string t,.int .i64 0])/\Q w')
 (HR:∀w',Q w'->Calls Tryz.prog 25 #[ptr bs] w' fun e w''=>∃a n c,e = .returned (.slice a n c)/\R (.slice a n c) w'') :
 Calls Tryz.prog 13 #[ptr bs,.agg #[.int .i64 kind,.string f,.string nm]] w fun e w'=>∃a n c,e = .returned (.tuple #[.string t,.int .i64 0,.slice a n c])/\R (.slice a n c) w':=by
 have HB:=hid (aG w (.cells #[.int .i64 kind,.string f,.string nm] 41));have HAA:=hid HA;have HRR:=hid HR;clear HA HR;go_enter Tryz.func13,Tryz.ntmps13;go_wp2_with fail
 refine (HAA.out _ HB.out).mono ?_;rintro e w1⟨rfl,hq⟩;have HQ:=hid hq;clear hq;go_wp2_with fail
 refine (HRR.out w1 HQ.out).mono ?_;rintro e w2⟨a,n,c,rfl,hr⟩;have HR2:=hid hr;clear hr;go_wp2;refine bodyPost_ret (v:=.tuple #[.string t,.int .i64 0,.slice a n c]) (by simp[results,Tryz.results13,go_sem];try rfl) rfl ?_;exact⟨a,n,c,rfl,HR2.out⟩
theorem NC(hF:D4 W0 F v fs){E:Nat->PE}{V':Nat->Nat}(hM:Made F E V')(hn:n<3000000)(h:iO W0 bs fm F v n st L w){kind:Int}{f nm:ByteArray}(hr:mA kind f nm=0)(hg:G5 (qK kind f nm)) :
 Calls Tryz.prog 13 #[ptr bs,.agg #[.int .i64 kind,.string f,.string nm]] w fun e w'=>∃a m c,e = .returned (.tuple #[.string (kT (bQ F v (qK kind f nm))),.int .i64 0,.slice a m c])/\∃st' L',iO W0 bs fm F v (n+1) st' L' w'/\FR L.own w w'/\(∀b,L'.own b->L.own b\/w.heap.size<=b)/\Kw st st'/\m=st'.began.length/\∃B,(∀b,L'.own b->b<B)/\w.heap.size<=B/\w'.ownsRow B 9 1 (.slice a m c) st'.began.length (st'.began.map fun k=>.string (gM k)):=by
 refine (Fx (t:=kT (bQ F v (qK kind f nm))) (Q:=fun w'=>∃st' L',iO W0 bs fm F v (n+1) st' L' w'/\FR L.own w w'/\(∀b,L'.own b->L.own b\/w.heap.size<=b)/\Kw st st') (R:=fun x w'=>∃st' L',iO W0 bs fm F v (n+1) st' L' w'/\FR L.own w w'/\(∀b,L'.own b->L.own b\/w.heap.size<=b)/\Kw st st'/\∃B,(∀b,L'.own b->b<B)/\w.heap.size<=B/\w'.ownsRow B 9 1 x st'.began.length (st'.began.map fun k=>.string (gM k))) (fun W hb=>(OE hF hM hn (h.below hb) hr hg).mono ?_) fun w' ⟨st',L',h1,h2,h3,h4⟩=>(Ou h1.at'.e h1.beg (mJ hF.pt h1.at'.m.low)).mono ?_).mono ?_
 . rintro e w'⟨rfl,st',L',h1,h2,h3,h4⟩
   exact⟨rfl,st',L',h1,(FR.of_below hb).trans h2 fun i hi=>.inl hi,fun b hb2=>(h3 b hb2).imp id fun x=>Nat.le_trans hb.size x,h4⟩
 . rintro e w''⟨x,rfl,ho,hb⟩
   have hsh:∃a m c,x = .slice a m c:=by
    obtain⟨_,⟨h1,h2⟩|⟨g,c,_,h1,_⟩⟩:=ho
    . exact⟨none,0,0,h1⟩
    . exact⟨_,_,c,h1⟩
   obtain⟨a,m,c,rfl⟩:=hsh;exact⟨a,m,c,rfl,st',L',h1.below hb,h2.trans (O':=fun _=>False) (FR.of_below hb) fun _ x=>x.elim,h3,h4,w'.heap.size,fun b hb2=>h1.own_lt hb2,h2.size,ho⟩
 . rintro e w'⟨a,m,c,rfl,st',L',h1,h2,h3,h4,B,h5,h6,h7⟩
   refine⟨a,m,c,rfl,st',L',h1,h2,h3,h4,?_,B,h5,h6,h7⟩;obtain⟨_,⟨e1,e2⟩|⟨g,c',_,e1,_⟩⟩:=h7
   . injection e1 with _ e1 _;omega
   . injection e1 with _ e1 _
end
def ND(c:Int):Prop:=-9223372036854775808<=c/\c<=9223372036854775807
theorem Ea(c:Int)(hc:ND c)(n:Nat)(hn:0<n)(hN:n<=4294967296)(w:World):Calls Tryz.prog 8 #[.int .i64 c,.int .i64 n] w fun e w'=>e = .returned (.int .i64 (kN c n))/\w'=w:=by
 obtain⟨h1,h2⟩:=hc;have hn0:(n:Int)≠0:=by omega
 have hp:((kN c n:Nat):Int)=(if c<0 then -(c+1) else c) % (n:Int):=by
  unfold kN;exact Int.toNat_of_nonneg (Int.emod_nonneg _ hn0)
 rw[hp];clear hp;by_cases h:c<0
 . have e:-(c+1).tmod (n:Int)=(-(c+1)) % (n:Int):=by rw[<-Int.neg_tmod,Int.tmod_eq_emod_of_nonneg (by omega)]
   rw[if_pos h];go_enter Tryz.func8,Tryz.ntmps8;go_wp2;go_ret;exact⟨rfl,rfl⟩
 . rw[if_neg h]
   go_enter Tryz.func8,Tryz.ntmps8;go_wp2;go_ret;exact⟨rfl,rfl⟩
structure wA (N mb:Nat) (l:List Int) (i:Nat) (w:World):Prop where
 ex:∃(na:Option Addr) (nc:Nat),w.heap[mb]? = some (.cells #[.slice na l.length nc,.int .i64 i] 49)/\∃b o:Nat,(0<l.length->na=some ⟨b,o,none⟩/\b<N)/\∀(j:Nat) c,l[j]? = some c->w.cell? ⟨b,o+j,none⟩=some (.int .i64 c)
 rng:∀c∈l,ND c
 nm:N<=mb
 len:l.length<=1048576
 le:i<=l.length
theorem wA.fr{N mb:Nat}{l:List Int}{i:Nat}{w w':World}{O:Nat->Prop}(h:wA N mb l i w)(hf:FR O w w')(hn:∀b,b<N->¬O b)(hb:¬O mb):wA N mb l i w':=by
 obtain⟨na,nc,hm,b,o,hb,hc⟩:=h.ex;have hl:=aB hm;refine⟨⟨na,nc,hf.heap hm (by assumption),b,o,hb,fun j c hj=>?_⟩,h.rng,h.nm,h.len,h.le⟩;obtain⟨h1,h3⟩:=hb (by have:=(List.getElem?_eq_some_iff.1 hj).1;omega);have:=h.nm
 rw[World.cell?_of_block (hf.block b (by omega) (hn b h3))];exact hc j c hj
theorem wA.below{N mb:Nat}{l:List Int}{i:Nat}{w w':World}(h:wA N mb l i w)(hb:Below w.heap.size w w'):wA N mb l i w':=
 h.fr (O:=fun _=>False) (FR.of_below hb) (fun _ _ x=>x) (fun x=>x)
theorem Ar{N mb:Nat}{l:List Int}{i:Nat}{w:World}(h:wA N mb l i w)(n:Nat)(hn:0<n)(hN:n<=4294967296) :
 Calls Tryz.prog 28 #[ptr mb,.int .i64 n] w fun e w'=>e = .returned (.int .i64 (bE l i n).1)/\FR (· = mb) w w'/\wA N mb l (bE l i n).2 w':=by
 obtain⟨na,nc,hm,b,o,hb,hc⟩:=h.ex;have c0:w.cell? ⟨mb,0,none⟩=some (.slice na l.length nc):=by rw[aA hm];rfl
 have c1:w.cell? ⟨mb,1,none⟩=some (.int .i64 i):=by rw[aA hm];rfl
 have f1:w.frozen? ⟨mb,1,none⟩=false:=aE hm;have hl:=h.len;have hle:=h.le;by_cases hi:i<l.length
 . obtain⟨hna,hbn⟩:=hb (by omega)
   have hnm:=h.nm;have hbm:b≠mb:=by omega
   have hbs:b<w.heap.size:=by have:=aB hm;omega
   subst hna;obtain⟨c,hci⟩:∃c,l[i]? = some c:=⟨l[i],List.getElem?_eq_getElem hi⟩
   have hcell:=hc i c hci;have e1:bE l i n=(kN c n,i+1):=by unfold bE;rw[hci]
   have hP:Hid (∀W,Calls Tryz.prog 8 #[.int .i64 c,.int .i64 n] W fun e w'=>e = .returned (.int .i64 (kN c n))/\w'=W):=hid fun W=>Ea c (h.rng c (List.mem_of_getElem? hci)) n hn hN W;have FIN:Hid (∀(W:World),Below w.heap.size w W->W.heap[mb]? = some (.cells #[.slice (some ⟨b,o,none⟩) l.length nc,.int .i64 i] 49)->FR (· = mb) w (W.setCell ⟨mb,1,none⟩ (.int .i64 ((i:Int)+1)))/\wA N mb l (i+1) (W.setCell ⟨mb,1,none⟩ (.int .i64 ((i:Int)+1)))):=hid fun W hB hW=>by
    have hb2:=h.below hB;refine⟨(FR.of_below hB).setCell (O:=(· = mb)) ⟨mb,1,none⟩ (.inl rfl) _,⟨_,nc,?_,b,o,fun _=>⟨rfl,hbn⟩,fun j x hj=>?_⟩,h.rng,h.nm,h.len,hi⟩
    . rw[aH hW];rfl
    . rw[World.cell?_setCell_other _ _ _ _ (by intro e;injection e with e2 _;exact hbm e2.symm)]
      rw[World.cell?_of_block (hB.block b hbs)];exact hc j x hj
   go_enter Tryz.func28,Tryz.ntmps28;have HL:=hid h;have HE1:=hid e1;have HM:=hid hm;clear h e1 hm hb hc hci hbm hbs hbn hnm;go_wp2_with fail
   go_quiet (fail)
   have c0':(w.drewN nq).cell? ⟨mb,0,none⟩=some (.slice (some ⟨b,o,none⟩) l.length nc):=c0;have c1':(w.drewN nq).cell? ⟨mb,1,none⟩=some (.int .i64 i):=c1;have f1':(w.drewN nq).frozen? ⟨mb,1,none⟩=false:=f1;have hc':(w.drewN nq).cell? ⟨b,o+i,none⟩=some (.int .i64 c):=hcell;have HB:=hid (below_drewN w nq);have HM':=hid (show (w.drewN nq).heap[mb]? = some (.cells #[.slice (some ⟨b,o,none⟩) l.length nc,.int .i64 i] 49) from HM.out);clear c0 c1 f1 hcell;generalize w.drewN nq=w1 at *;go_wp2_with fail
   go_quiet (fail)
   go_wp2_with fail
   refine (hP.out _).mono ?_;rintro e w2⟨rfl,rfl⟩;go_wp2;go_ret;rw[HE1.out];exact⟨rfl,FIN.out _ (aF HB.out (below_drewN _ _)) HM'.out⟩
 . have e1:bE l i n=(0,i):=by unfold bE;rw[List.getElem?_eq_none (by omega)]
   have hP:Hid (∀W,Calls Tryz.prog 8 #[.int .i64 0,.int .i64 n] W fun e w'=>e = .returned (.int .i64 0)/\w'=W):=hid fun W=>by
    have:=Ea 0 ⟨by decide,by decide⟩ n hn hN W
    rwa[show ((kN 0 n:Nat):Int)=0 by simp[kN]] at this
   go_enter Tryz.func28,Tryz.ntmps28;have HL:=hid h;have HE1:=hid e1;clear h e1 hm hb hc;go_wp2_with fail
   go_quiet (fail)
   have HB:=hid (below_drewN w nq);generalize w.drewN nq=w1 at *;go_wp2_with fail
   refine (hP.out _).mono ?_;rintro e w2⟨rfl,rfl⟩;go_wp2;go_ret;rw[HE1.out];exact⟨rfl,FR.of_below HB.out,HL.out.below HB.out⟩
theorem Eb(k:Nat)(hk:k<10)(w:World):Calls Tryz.prog 11 #[.int .i64 (k:Nat)] w fun e w'=>e = .returned (.string (fC k))/\w'=w:=by
 have h6:k=0\/k=1\/k=2\/k=3\/k=4\/k=5\/k=6\/k=7\/k=8\/k=9:=by omega
 rcases h6 with rfl|rfl|rfl|rfl|rfl|rfl|rfl|rfl|rfl|rfl
 all_goals
  go_enter Tryz.func11,Tryz.ntmps11;go_wp2;go_ret;exact⟨rfl,rfl⟩
structure Dm (W0:World) (mb:Nat) (l:List Int) (vs:List Nat) (va:Option Addr) (i:Nat) (w:World):Prop where
 ms:wA W0.heap.size mb l i w
 lo:Below W0.heap.size W0 w
 vl:∃b:Nat,(0<vs.length->va=some ⟨b,0,none⟩/\b≠mb/\b<w.heap.size)/\∀(j x:Nat),vs[j]? = some x->w.cell? ⟨b,j,none⟩=some (.int .i64 x)
theorem Dm.step{W0:World}{mb:Nat}{l:List Int}{vs:List Nat}{va:Option Addr}{i i':Nat}{w w':World}(h:Dm W0 mb l vs va i w)(hf:FR (· = mb) w w')(hk:wA W0.heap.size mb l i' w'):Dm W0 mb l vs va i' w':=by
 obtain⟨b,h1,h2⟩:=h.vl;have hlo:=h.lo;have hm:=h.ms.nm;have hs:=hf.size;refine⟨hk,⟨hf.os.trans hlo.os,hf.tape.trans hlo.tape,hf.output.trans hlo.output,Nat.le_trans hlo.size hs,fun b hb=>(hf.block b (Nat.lt_of_lt_of_le hb hlo.size) (by omega)).trans (hlo.block b hb)⟩,b,fun hl=>?_,fun j x hx=>?_⟩
 . obtain⟨a1,a2,a3⟩:=h1 hl
   exact⟨a1,a2,Nat.lt_of_lt_of_le a3 hs⟩
 . obtain⟨a1,a2,a3⟩:=h1 (by have:=(List.getElem?_eq_some_iff.1 hx).1;omega)
   rw[World.cell?_of_block (hf.block b a3 a2)];exact h2 j x hx
theorem Dm.below{W0:World}{mb:Nat}{l:List Int}{vs:List Nat}{va:Option Addr}{i:Nat}{w w':World}(h:Dm W0 mb l vs va i w)(hb:Below w.heap.size w w'):Dm W0 mb l vs va i w':=h.step (FR.of_below hb) (h.ms.below hb)
def pA(e:PE):ByteArray:=⟨e.t.toArray⟩
def Au(N mb:Nat)(l:List Int)(vs:List Nat)(r:PE×Nat)(w:World):Ending->World->Prop:=fun e w'=>
 e = .returned (.tuple #[.string (pA r.1),.int .i64 (r.1.val (gJ vs))])/\FR (· = mb) w w'/\wA N mb l r.2 w'
theorem NF:∀n<7,kE n=pA (.num n):=by
 have:(List.range 7).all (fun n=>decide (kE n=pA (.num n)))=true:=by kernel_rfl
 intro n hn;have:=List.all_eq_true.1 this n (List.mem_range.2 hn)
 exact of_decide_eq_true this
section
variable {W0:World} {mb:Nat} {l:List Int} {vs:List Nat} {va:Option Addr} {vc i:Nat} {w:World}
theorem NG(hp:PT W0.heap.size W0)(hv:vs.length<=10)(h:Dm W0 mb l vs va i w) :
 Calls Tryz.prog 16 #[ptr mb,.slice va vs.length vc,.int .i64 0] w (Au W0.heap.size mb l vs (cZ l vs 0 i) w):=by
 have hy:=jE l i (n:=6) (by decide);have H1:=hid (Ar h.ms 6 (by decide) (by decide));have HS:=hid h;obtain⟨p,hpq⟩:∃p,p=bE l i 6:=⟨_,rfl⟩
 have e0:cZ l vs 0 i=fN l vs (p.1 % 2) p.2:=by rw[hpq];rfl
 rw[e0];rw[<-hpq] at H1 hy;clear hpq e0 h;obtain⟨y,i1⟩:=p;simp only at hy H1 ⊢;by_cases hc:y % 2=0\/vs.length=0
 . rw[show fN l vs (y % 2) i1=(.num (bE l i1 7).1,(bE l i1 7).2) by unfold fN;rw[if_pos hc]]
   have hn7:=jE l i1 (n:=7) (by decide);have HI:Hid (∀W i',Dm W0 mb l vs va i' W->Calls Tryz.prog 12 #[.int .i64 (bE l i1 7).1] W fun e w'=>e = .returned (.string (kE (bE l i1 7).1))/\Below W.heap.size W w'):=hid fun W i' hW=>DZ _ (by omega) W (mJ hp hW.lo);have HD:=hid (NF (bE l i1 7).1 hn7);by_cases hy0:y % 2=0
   . have hz:((y:Int) % 2)=0:=by omega
     go_enter Tryz.func16,Tryz.ntmps16;go_wp2_with fail
     refine H1.out.mono ?_;rintro e w1⟨rfl,hf,hk⟩;have HS1:=hid (HS.out.step hf hk);have HF1:=hid hf;clear hf hk H1;go_wp2_with fail
     refine (Ar HS1.out.ms 7 (by decide) (by decide)).mono ?_;rintro e w2⟨rfl,hf,hk⟩;have HS2:=hid (HS1.out.step hf hk);have HF2:=hid (HF1.out.trans hf fun _ x=>.inl x);clear hf hk HS1 HF1;go_wp2_with fail
     refine (HI.out _ _ HS2.out).mono ?_;rintro e w3⟨rfl,hb⟩;have HS3:=hid (HS2.out.below hb);have HF3:=hid (HF2.out.trans (FR.of_below (O:=(· = mb)) hb) fun _ x=>.inl x);clear hb;go_wp2;go_ret2;unfold Au;rw[HD.out];exact⟨rfl,HF3.out,HS3.out.ms⟩
   . have hz:((y:Int) % 2)=1:=by omega
     have hl0:vs.length=0:=by omega
     rw[hl0] at *;go_enter Tryz.func16,Tryz.ntmps16;go_wp2_with fail
     refine H1.out.mono ?_;rintro e w1⟨rfl,hf,hk⟩;have HS1:=hid (HS.out.step hf hk);have HF1:=hid hf;clear hf hk H1;go_wp2_with fail
     refine (Ar HS1.out.ms 7 (by decide) (by decide)).mono ?_;rintro e w2⟨rfl,hf,hk⟩;have HS2:=hid (HS1.out.step hf hk);have HF2:=hid (HF1.out.trans hf fun _ x=>.inl x);clear hf hk HS1 HF1;go_wp2_with fail
     refine (HI.out _ _ HS2.out).mono ?_;rintro e w3⟨rfl,hb⟩;have HS3:=hid (HS2.out.below hb);have HF3:=hid (HF2.out.trans (FR.of_below (O:=(· = mb)) hb) fun _ x=>.inl x);clear hb;go_wp2;go_ret2;unfold Au;rw[HD.out];exact⟨rfl,HF3.out,HS3.out.ms⟩
 . rw[show fN l vs (y % 2) i1=(.ref (bE l i1 vs.length).1,(bE l i1 vs.length).2) by unfold fN;rw[if_neg hc]]
   have hlen:0<vs.length:=by omega
   have hz:((y:Int) % 2)=1:=by omega
   have hz0:(((vs.length:Nat):Int)==0)=false:=by rw[beq_eq_false_iff_ne];omega
   have hkk:=jE l i1 hlen;have HQ:Hid (∀W,wA W0.heap.size mb l i1 W->Calls Tryz.prog 28 #[ptr mb,.int .i64 vs.length] W fun e w'=>e = .returned (.int .i64 (bE l i1 vs.length).1)/\FR (· = mb) W w'/\wA W0.heap.size mb l (bE l i1 vs.length).2 w'):=hid fun W hW=>Ar hW vs.length hlen (by omega);generalize bE l i1 vs.length=q at *;obtain⟨k,i2⟩:=q;simp only at hkk HQ ⊢;obtain⟨x,hx⟩:∃x,vs[k]? = some x:=⟨_,List.getElem?_eq_getElem hkk⟩
   have HX:=hid hx;have hvv:gJ vs k=x:=by unfold gJ;rw[List.getD_eq_getElem?_getD,hx];rfl
   have HV:=hid hvv;have HN:Hid (∀W,Calls Tryz.prog 11 #[.int .i64 (k:Nat)] W fun e w'=>e = .returned (.string (fC k))/\w'=W):=hid fun W=>Eb k (by omega) W;clear hx hvv hc;go_enter Tryz.func16,Tryz.ntmps16;go_wp2_with fail
   refine H1.out.mono ?_;rintro e w1⟨rfl,hf,hk⟩;have HS1:=hid (HS.out.step hf hk);have HF1:=hid hf;clear hf hk H1;go_wp2_with fail
   refine (HQ.out _ HS1.out.ms).mono ?_;rintro e w2⟨rfl,hf,hk⟩;have HS2:=hid (HS1.out.step hf hk);have HF2:=hid (HF1.out.trans hf fun _ x=>.inl x);clear hf hk HS1 HF1;obtain⟨b,hb1,hb2⟩:=HS2.out.vl;obtain⟨hva,hbm,hbs⟩:=hb1 hlen;have hcell:=hb2 _ _ HX.out;subst hva;clear hb1 hb2 hbm hbs;go_wp2_with fail
   go_quiet ((go_at_call 11;refine Calls.quiet_of_same (HN.out _)))
   go_wp2;go_ret2;unfold Au;have hv':(PE.ref k).val (gJ vs)=x:=HV.out;rw[hv'];exact⟨rfl,HF2.out.trans (FR.of_below (O:=(· = mb)) (below_drewN w2 nq)) fun _ x=>.inl x,(HS2.out.below (below_drewN w2 nq)).ms⟩
end
structure N6 (W0:World) (mb:Nat) (l:List Int) (vs:List Nat) (va:Option Addr) (vc d:Nat):Prop where
 call:∀i w,Dm W0 mb l vs va i w->Calls Tryz.prog 16 #[ptr mb,.slice va vs.length vc,.int .i64 d] w (Au W0.heap.size mb l vs (cZ l vs d i) w)
 sz:∀i,(pA (cZ l vs d i).1).size<=30
 val:∀i,(cZ l vs d i).1.val (gJ vs)<=1000000
section
variable {W0:World} {mb:Nat} {l:List Int} {vs:List Nat} {va:Option Addr} {vc i:Nat} {w:World}
theorem NH(hp:PT W0.heap.size W0)(hv:vs.length<=10)(h:Dm W0 mb l vs va i w){D:Int}(hD:(D==0)=false)(hlt:(bE l i 6).1<2) :
 Calls Tryz.prog 16 #[ptr mb,.slice va vs.length vc,.int .i64 D] w (Au W0.heap.size mb l vs (fN l vs (bE l i 6).1 (bE l i 6).2) w):=by
 have H1:=hid (Ar h.ms 6 (by decide) (by decide));have HS:=hid h;generalize bE l i 6=p at *;clear h;obtain⟨y,i1⟩:=p;simp only at hlt H1 ⊢;by_cases hc:y=0\/vs.length=0
 . rw[show fN l vs y i1=(.num (bE l i1 7).1,(bE l i1 7).2) by unfold fN;rw[if_pos hc]]
   have hn7:=jE l i1 (n:=7) (by decide);have HI:Hid (∀W i',Dm W0 mb l vs va i' W->Calls Tryz.prog 12 #[.int .i64 (bE l i1 7).1] W fun e w'=>e = .returned (.string (kE (bE l i1 7).1))/\Below W.heap.size W w'):=hid fun W i' hW=>DZ _ (by omega) W (mJ hp hW.lo);have HD:=hid (NF (bE l i1 7).1 hn7);by_cases hy0:y=0
   . subst hy0
     go_enter Tryz.func16,Tryz.ntmps16;go_wp2_with fail
     refine H1.out.mono ?_;rintro e w1⟨rfl,hf,hk⟩;have HS1:=hid (HS.out.step hf hk);have HF1:=hid hf;clear hf hk H1;go_wp2_with fail
     refine (Ar HS1.out.ms 7 (by decide) (by decide)).mono ?_;rintro e w2⟨rfl,hf,hk⟩;have HS2:=hid (HS1.out.step hf hk);have HF2:=hid (HF1.out.trans hf fun _ x=>.inl x);clear hf hk HS1 HF1;go_wp2_with fail
     refine (HI.out _ _ HS2.out).mono ?_;rintro e w3⟨rfl,hb⟩;have HS3:=hid (HS2.out.below hb);have HF3:=hid (HF2.out.trans (FR.of_below (O:=(· = mb)) hb) fun _ x=>.inl x);clear hb;go_wp2;go_ret2;unfold Au;rw[HD.out];exact⟨rfl,HF3.out,HS3.out.ms⟩
   . have hy1:y=1:=by omega
     have hl0:vs.length=0:=by omega
     subst hy1;rw[hl0] at *;go_enter Tryz.func16,Tryz.ntmps16;go_wp2_with fail
     refine H1.out.mono ?_;rintro e w1⟨rfl,hf,hk⟩;have HS1:=hid (HS.out.step hf hk);have HF1:=hid hf;clear hf hk H1;go_wp2_with fail
     refine (Ar HS1.out.ms 7 (by decide) (by decide)).mono ?_;rintro e w2⟨rfl,hf,hk⟩;have HS2:=hid (HS1.out.step hf hk);have HF2:=hid (HF1.out.trans hf fun _ x=>.inl x);clear hf hk HS1 HF1;go_wp2_with fail
     refine (HI.out _ _ HS2.out).mono ?_;rintro e w3⟨rfl,hb⟩;have HS3:=hid (HS2.out.below hb);have HF3:=hid (HF2.out.trans (FR.of_below (O:=(· = mb)) hb) fun _ x=>.inl x);clear hb;go_wp2;go_ret2;unfold Au;rw[HD.out];exact⟨rfl,HF3.out,HS3.out.ms⟩
 . rw[show fN l vs y i1=(.ref (bE l i1 vs.length).1,(bE l i1 vs.length).2) by unfold fN;rw[if_neg hc]]
   have hlen:0<vs.length:=by omega
   have hy1:y=1:=by omega
   subst hy1;have hz0:(((vs.length:Nat):Int)==0)=false:=by rw[beq_eq_false_iff_ne];omega
   have hkk:=jE l i1 hlen;have HQ:Hid (∀W,wA W0.heap.size mb l i1 W->Calls Tryz.prog 28 #[ptr mb,.int .i64 vs.length] W fun e w'=>e = .returned (.int .i64 (bE l i1 vs.length).1)/\FR (· = mb) W w'/\wA W0.heap.size mb l (bE l i1 vs.length).2 w'):=hid fun W hW=>Ar hW vs.length hlen (by omega);generalize bE l i1 vs.length=q at *;obtain⟨k,i2⟩:=q;simp only at hkk HQ ⊢;obtain⟨x,hx⟩:∃x,vs[k]? = some x:=⟨_,List.getElem?_eq_getElem hkk⟩
   have HX:=hid hx;have hvv:gJ vs k=x:=by unfold gJ;rw[List.getD_eq_getElem?_getD,hx];rfl
   have HV:=hid hvv;have HN:Hid (∀W,Calls Tryz.prog 11 #[.int .i64 (k:Nat)] W fun e w'=>e = .returned (.string (fC k))/\w'=W):=hid fun W=>Eb k (by omega) W;clear hx hvv hc;go_enter Tryz.func16,Tryz.ntmps16;go_wp2_with fail
   refine H1.out.mono ?_;rintro e w1⟨rfl,hf,hk⟩;have HS1:=hid (HS.out.step hf hk);have HF1:=hid hf;clear hf hk H1;go_wp2_with fail
   refine (HQ.out _ HS1.out.ms).mono ?_;rintro e w2⟨rfl,hf,hk⟩;have HS2:=hid (HS1.out.step hf hk);have HF2:=hid (HF1.out.trans hf fun _ x=>.inl x);clear hf hk HS1 HF1;obtain⟨b,hb1,hb2⟩:=HS2.out.vl;obtain⟨hva,hbm,hbs⟩:=hb1 hlen;have hcell:=hb2 _ _ HX.out;subst hva;clear hb1 hb2 hbm hbs;go_wp2_with fail
   go_quiet ((go_at_call 11;refine Calls.quiet_of_same (HN.out _)))
   go_wp2;go_ret2;unfold Au;have hv':(PE.ref k).val (gJ vs)=x:=HV.out;rw[hv'];exact⟨rfl,HF2.out.trans (FR.of_below (O:=(· = mb)) (below_drewN w2 nq)) fun _ x=>.inl x,(HS2.out.below (below_drewN w2 nq)).ms⟩
end
theorem Me(a b:PE):(((⟨#[40]⟩++pA a)++⟨#[32,43,32]⟩)++pA b)++⟨#[41]⟩=pA (.add a b):=by
 apply ByteArray.ext;apply Array.toList_inj.1;simp[pA,PE.t,two]
theorem Mf(a b:PE):(((⟨#[40]⟩++pA a)++⟨#[41,42,40]⟩)++pA b)++⟨#[41]⟩=pA (.mul a b):=by
 apply ByteArray.ext;apply Array.toList_inj.1;simp[pA,PE.t,two]
theorem Kx(a b:PE):(((((⟨#[105,102,32]⟩++pA a)++⟨#[32,61,61,32]⟩)++pA b)++⟨#[32,116,104,101,110,32]⟩)++pA a)++⟨#[32,101,108,115,101,32,49,32,101,110,100]⟩=pA (.iteA a b):=by
 apply ByteArray.ext;apply Array.toList_inj.1;simp[pA,PE.t,two]
theorem Ky(a b:PE):(((((⟨#[105,102,32]⟩++pA a)++⟨#[32,61,61,32]⟩)++pA b)++⟨#[32,116,104,101,110,32,49,32,101,108,115,101,32]⟩)++pA b)++⟨#[32,101,110,100]⟩=pA (.iteB a b):=by
 apply ByteArray.ext;apply Array.toList_inj.1;simp[pA,PE.t,two]
section
variable {W0:World} {mb:Nat} {l:List Int} {vs:List Nat} {va:Option Addr} {vc d i:Nat} {w:World}
theorem NI(hI:N6 W0 mb l vs va vc d)(h:Dm W0 mb l vs va i w){D:Int}(hD:(D==0)=false)(hD1:D-1=d)(hd:d<=1)(hge:2<=(bE l i 6).1) :
 Calls Tryz.prog 16 #[ptr mb,.slice va vs.length vc,.int .i64 D] w (Au W0.heap.size mb l vs (iN vs (bE l i 6).1 (cZ l vs d (bE l i 6).2).1 (cZ l vs d (cZ l vs d (bE l i 6).2).2).1,(cZ l vs d (cZ l vs d (bE l i 6).2).2).2) w):=by
 have hy:=jE l i (n:=6) (by decide);have H1:=hid (Ar h.ms 6 (by decide) (by decide));have HS:=hid h;have hDw:D=d+1:=by omega
 generalize bE l i 6=p at *;clear h;obtain⟨y,i1⟩:=p;simp only at hy hge H1 ⊢;have hza:=hI.sz i1;have hxa:=hI.val i1;have HA:=hid (fun w=>hI.call i1 w);generalize cZ l vs d i1=A at *;obtain⟨A,i2⟩:=A;simp only at hza hxa HA ⊢;have hzb:=hI.sz i2;have hxb:=hI.val i2;have HB:=hid (fun w=>hI.call i2 w);generalize cZ l vs d i2=B at *;obtain⟨B,i3⟩:=B;simp only at hzb hxb HB ⊢;unfold Au at HA HB;obtain⟨sa,hsa⟩:∃s,s=pA A:=⟨_,rfl⟩
 obtain⟨sb,hsb⟩:∃s,s=pA B:=⟨_,rfl⟩
 obtain⟨xa,hva⟩:∃x,x=A.val (gJ vs):=⟨_,rfl⟩
 obtain⟨xb,hvb⟩:∃x,x=B.val (gJ vs):=⟨_,rfl⟩
 simp only[<-hsa,<-hsb,<-hva,<-hvb] at hza hzb hxa hxb HA HB;have hm:xa*xb<=1000000*1000000:=Nat.mul_le_mul hxa hxb;obtain⟨m,hmm⟩:∃m:Int,m=(xa:Int)*xb:=⟨_,rfl⟩
 have hm0:0<=m:=by rw[hmm,<-Int.natCast_mul];omega
 have hm1:m<=1000000000000:=by rw[hmm,<-Int.natCast_mul];omega
 have hmm2:(xa:Int)*xb=m:=hmm.symm;have F2:Hid (∀W,FR (· = mb) w W->wA W0.heap.size mb l i3 W->Au W0.heap.size mb l vs (iN vs 2 A B,i3) w (.returned (.tuple #[.string (⟨#[40]⟩++sa++⟨#[32,43,32]⟩++sb++⟨#[41]⟩),.int .i64 ((xa:Int)+xb)])) W):=hid fun W a b=>⟨by rw[hsa,hsb,hva,hvb,Me];rfl,a,b⟩
 have F3:Hid (∀W,FR (· = mb) w W->wA W0.heap.size mb l i3 W->Au W0.heap.size mb l vs (iN vs 3 A B,i3) w (.returned (.tuple #[.string (⟨#[40]⟩++sa++⟨#[41,42,40]⟩++sb++⟨#[41]⟩),.int .i64 m])) W):=hid fun W a b=>⟨by rw[hsa,hsb,hmm,hva,hvb,Mf,<-Int.natCast_mul];rfl,a,b⟩
 have F4:Hid (xa=xb->∀W,FR (· = mb) w W->wA W0.heap.size mb l i3 W->Au W0.heap.size mb l vs (iN vs 4 A B,i3) w (.returned (.tuple #[.string (⟨#[105,102,32]⟩++sa++⟨#[32,61,61,32]⟩++sb++⟨#[32,116,104,101,110,32]⟩++sa++⟨#[32,101,108,115,101,32,49,32,101,110,100]⟩),.int .i64 (xa:Int)])) W):=hid fun he W a b=>by
  have hc:iN vs 4 A B = .iteA A B:=by unfold iN;rw[<-hva,<-hvb,he];simp
  have hv:(PE.iteA A B).val (gJ vs)=xa:=by show (if A.val (gJ vs)=B.val (gJ vs) then A.val (gJ vs) else 1)=xa;rw[<-hva,<-hvb,if_pos he]
  rw[hc];exact⟨by rw[hv,hsa,hsb,Kx],a,b⟩
 have F5:Hid (xa≠xb->∀W,FR (· = mb) w W->wA W0.heap.size mb l i3 W->Au W0.heap.size mb l vs (iN vs 4 A B,i3) w (.returned (.tuple #[.string (⟨#[105,102,32]⟩++sa++⟨#[32,61,61,32]⟩++sb++⟨#[32,116,104,101,110,32,49,32,101,108,115,101,32]⟩++sb++⟨#[32,101,110,100]⟩),.int .i64 (xb:Int)])) W):=hid fun he W a b=>by
  have hc:iN vs 4 A B = .iteB A B:=by unfold iN;rw[<-hva,<-hvb,if_neg he];simp
  have hv:(PE.iteB A B).val (gJ vs)=xb:=by show (if A.val (gJ vs)=B.val (gJ vs) then 1 else B.val (gJ vs))=xb;rw[<-hva,<-hvb,if_neg he]
  rw[hc];exact⟨by rw[hv,hsa,hsb,Ky],a,b⟩
 have F6:Hid (∀W,FR (· = mb) w W->wA W0.heap.size mb l i3 W->Au W0.heap.size mb l vs (iN vs 5 A B,i3) w (.returned (.tuple #[.string sa,.int .i64 (xa:Int)])) W):=hid fun W a b=>⟨by rw[hsa,hva];rfl,a,b⟩
 clear hva hvb hsa hsb hmm;have q1:¬(9223372036854775807<1+sa.size):=by omega
 have q2:¬(9223372036854775807<1+sa.size+3):=by omega
 have q3:¬(9223372036854775807<1+sa.size+3+sb.size):=by omega
 have q4:¬(9223372036854775807<1+sa.size+3+sb.size+1):=by omega
 have r1:¬(9223372036854775807<3+sa.size):=by omega
 have r2:¬(9223372036854775807<3+sa.size+4):=by omega
 have r3:¬(9223372036854775807<3+sa.size+4+sb.size):=by omega
 have r4:¬(9223372036854775807<3+sa.size+4+sb.size+6):=by omega
 have r5:¬(9223372036854775807<3+sa.size+4+sb.size+6+sa.size):=by omega
 have r6:¬(9223372036854775807<3+sa.size+4+sb.size+6+sa.size+11):=by omega
 have t4:¬(9223372036854775807<3+sa.size+4+sb.size+13):=by omega
 have t5:¬(9223372036854775807<3+sa.size+4+sb.size+13+sb.size):=by omega
 have t6:¬(9223372036854775807<3+sa.size+4+sb.size+13+sb.size+4):=by omega
 have hy0:(((y:Nat):Int)==0)=false:=by rw[beq_eq_false_iff_ne];omega
 have hy1:(((y:Nat):Int)==1)=false:=by rw[beq_eq_false_iff_ne];omega
 have HY5:=hid (show y=2\/y=3\/y=4\/y=5 by omega);obtain⟨n,hn⟩:∃n,n=vs.length:=⟨_,rfl⟩
 rw[<-hn] at HA HB ⊢;clear hn hI;have HZ:=hid (show n=0\/(((n:Nat):Int)==0)=false from by
  by_cases hn0:n=0
  . exact .inl hn0
  . right;rw[beq_eq_false_iff_ne];omega)
 rcases HZ.out with rfl|hz
 all_goals
  go_enter Tryz.func16,Tryz.ntmps16;go_wp2_with fail
  refine H1.out.mono ?_;rintro e w1⟨rfl,hf,hk⟩;have HS1:=hid (HS.out.step hf hk);have HF1:=hid hf;clear hf hk H1;go_wp2_with fail
  refine (HA.out _ HS1.out).mono ?_;rintro e w2⟨rfl,hf,hk⟩;have HS2:=hid (HS1.out.step hf hk);have HF2:=hid (HF1.out.trans hf fun _ x=>.inl x);clear hf hk HA;go_wp2_with fail
  refine (HB.out _ HS2.out).mono ?_;rintro e w3⟨rfl,hf,hk⟩;have HS3:=hid (HS2.out.step hf hk);have HF3:=hid (HF2.out.trans hf fun _ x=>.inl x);clear hf hk HB;rcases HY5.out with rfl|rfl|rfl|rfl
  . clear hy0 hy1
    go_wp2;go_ret2;exact F2.out _ HF3.out HS3.out.ms
  . clear hy0 hy1
    go_wp2;go_ret2;exact F3.out _ HF3.out HS3.out.ms
  . clear hy0 hy1
    by_cases he:xa=xb
    . have HE:=hid he
      subst he;go_wp2;go_ret2;exact F4.out (by first|rfl|trivial) _ HF3.out HS3.out.ms
    . have HE:=hid he
      have he2:(((xa:Nat):Int)==(xb:Nat))=false:=by rw[beq_eq_false_iff_ne];omega
      clear he;go_wp2;go_ret2;exact F5.out HE.out _ HF3.out HS3.out.ms
  . clear hy0 hy1
    go_wp2;go_ret2;exact F6.out _ HF3.out HS3.out.ms
end
theorem pY(e:PE):(pA e).size=e.t.length:=by simp[pA,ByteArray.size]
section
variable {W0:World} {mb:Nat} {l:List Int} {vs:List Nat} {va:Option Addr} {vc i:Nat} {w:World}
theorem OG(hp:PT W0.heap.size W0)(hv:vs.length<=10)(hs:∀x∈vs,x<=1000):N6 W0 mb l vs va vc 0:=
 ⟨fun i w h=>NG hp hv h,fun i=>by rw[pY];have:=(Df l hv i).len;omega,fun i=>by have:=(IM l hv hs i).val;omega⟩
theorem Kz(l:List Int)(vs:List Nat)(d i:Nat)(h:(bE l i 6).1<2):cZ l vs (d+1) i=fN l vs (bE l i 6).1 (bE l i 6).2:=by rw[cZ,if_pos h]
theorem KA(l:List Int)(vs:List Nat)(d i:Nat)(h:¬(bE l i 6).1<2):cZ l vs (d+1) i=(iN vs (bE l i 6).1 (cZ l vs d (bE l i 6).2).1 (cZ l vs d (cZ l vs d (bE l i 6).2).2).1,(cZ l vs d (cZ l vs d (bE l i 6).2).2).2):=by rw[cZ,if_neg h]
theorem NJ(hp:PT W0.heap.size W0)(hv:vs.length<=10){d:Nat}(hd:d<=1)(hI:N6 W0 mb l vs va vc d)(h:Dm W0 mb l vs va i w):Calls Tryz.prog 16 #[ptr mb,.slice va vs.length vc,.int .i64 ((d:Int)+1)] w (Au W0.heap.size mb l vs (cZ l vs (d+1) i) w):=by
 have hD:(((d:Int)+1)==0)=false:=by rw[beq_eq_false_iff_ne];omega
 by_cases hlt:(bE l i 6).1<2
 . rw[Kz l vs d i hlt]
   exact NH hp hv h hD hlt
 . rw[KA l vs d i hlt]
   exact NI hI h hD (by omega) hd (by omega)
theorem OH(hp:PT W0.heap.size W0)(hv:vs.length<=10)(hs:∀x∈vs,x<=1000):N6 W0 mb l vs va vc 1:=
 ⟨fun i w h=>NJ (d:=0) hp hv (by decide) (OG hp hv hs) h,fun i=>by rw[pY];exact (Dg l hv i).len,fun i=>(IP l hv hs i).val⟩
theorem NK(hp:PT W0.heap.size W0)(hv:vs.length<=10)(hs:∀x∈vs,x<=1000)(h:Dm W0 mb l vs va i w):Calls Tryz.prog 16 #[ptr mb,.slice va vs.length vc,.int .i64 2] w (Au W0.heap.size mb l vs (cZ l vs 2 i) w):=
 NJ (d:=1) hp hv (by decide) (OH hp hv hs) h
end
theorem PE.val_congr{V V':Nat->Nat}{m:Nat}(h:∀k,k<m->V k=V' k):∀(e:PE),e.ok m->e.val V=e.val V'/\(e.sm V↔e.sm V')
 | ⟨.inl _,_⟩,_=>⟨rfl,Iff.rfl⟩
 | ⟨.inr (.inl k),_⟩,x=>⟨h k x.1,Iff.rfl⟩
 | ⟨.inr (.inr (.inl _)),s'⟩,x=>by
  obtain⟨a1,a2⟩:=PE.val_congr h (s' false) x.1;obtain⟨b1,b2⟩:=PE.val_congr h (s' true) x.2;simp only[PE.val,PE.sm,a1,b1,a2,b2,and_self,two,three]
 | ⟨.inr (.inr (.inr (.inl _))),s'⟩,x=>by
  obtain⟨a1,a2⟩:=PE.val_congr h (s' false) x.1;obtain⟨b1,b2⟩:=PE.val_congr h (s' true) x.2;simp only[PE.val,PE.sm,a1,b1,a2,b2,and_self,two,three]
 | ⟨.inr (.inr (.inr (.inr (.inl _)))),s'⟩,x=>by
  obtain⟨a1,a2⟩:=PE.val_congr h (s' false) x.1;obtain⟨b1,b2⟩:=PE.val_congr h (s' true) x.2;simp only[PE.val,PE.sm,a1,b1,a2,b2,and_self,two,three]
 | ⟨.inr (.inr (.inr (.inr (.inr _)))),s'⟩,x=>by
  obtain⟨a1,a2⟩:=PE.val_congr h (s' false) x.1;obtain⟨b1,b2⟩:=PE.val_congr h (s' true) x.2;simp only[PE.val,PE.sm,a1,b1,a2,b2,and_self,two,three]
def Fy(vs:List Nat)(e:PE):PE:=if 1000<e.val (gJ vs)\/100<e.t.length then .num 5 else e
structure Pl where
 es:List PE
 vs:List Nat
 i:Nat
def cR(l:List Int):Nat->Pl
 | 0=>⟨[],[],0⟩
 | k+1=>⟨(cR l k).es ++ [Fy (cR l k).vs (cZ l (cR l k).vs 2 (cR l k).i).1],(cR l k).vs ++ [(Fy (cR l k).vs (cZ l (cR l k).vs 2 (cR l k).i).1).val (gJ (cR l k).vs)],(cZ l (cR l k).vs 2 (cR l k).i).2⟩
def E5(l:List Int)(k:Nat):PE:=Fy (cR l k).vs (cZ l (cR l k).vs 2 (cR l k).i).1
def V5(l:List Int)(k:Nat):Nat:=(E5 l k).val (gJ (cR l k).vs)
theorem lM(l:List Int):∀k,(cR l k).vs=(List.range k).map (V5 l)
 | 0=>rfl
 | k+1=>by rw[List.range_succ,List.map_append,<-lM l k];rfl
theorem lN(l:List Int)(k:Nat):(cR l k).vs.length=k:=by rw[lM];simp
theorem IX(l:List Int){k j:Nat}(h:j<k):gJ (cR l k).vs j=V5 l j:=by
 rw[lM];unfold gJ;rw[List.getD_eq_getElem?_getD];simp[h]
theorem wB(l:List Int)(k:Nat)(hk:k<10)(hs:∀x∈(cR l k).vs,x<=1000):(E5 l k).ok k/\(E5 l k).fu<=46/\(E5 l k).dep<=3/\(E5 l k).t.length<=100/\(E5 l k).sm (gJ (cR l k).vs)/\V5 l k<=1000:=by
 have hlen:=lN l k;obtain⟨h1,h2,h3,h4⟩:=IL l (vs:=(cR l k).vs) (by omega) (cR l k).i;obtain⟨h5,h6⟩:=K0 l (vs:=(cR l k).vs) (by omega) hs (cR l k).i;rw[hlen] at h1;unfold V5 E5 Fy;split
 . exact⟨by show 5<10;decide,by decide,by decide,by decide,trivial,by show 5<=1000;decide⟩
 . exact⟨h1,h2,h3,by omega,h6 (by omega),by omega⟩
theorem NL(l:List Int):∀k,k<10->V5 l k<=1000:=fun k=>by
 induction k using Nat.strongRecOn with
 | _ k ih=>
  intro hk;refine (wB l k hk fun x hx=>?_).2.2.2.2.2;rw[lM] at hx;obtain⟨j,hj,rfl⟩:=List.mem_map.1 hx;have:=List.mem_range.1 hj
  exact ih j this (by omega)
theorem eU(l:List Int){k:Nat}(hk:k<=10):∀x∈(cR l k).vs,x<=1000:=fun x hx=>by
 rw[lM] at hx;obtain⟨j,hj,rfl⟩:=List.mem_map.1 hx;have:=List.mem_range.1 hj
 exact NL l j (by omega)
def mL(l:List Int)(i:Nat):ByteArray:=⟨(mK (List.range i) (2*i) (E5 l (2*i)) (E5 l (2*i+1))).toArray⟩
theorem qZ:∀(us:List Nat),(lJ us).length=7*us.length
 | []=>rfl
 | u::us=>by simp only[lJ,ID,Ks,List.length_append,List.length_cons,List.length_nil,qZ us];omega
theorem yO(k:Nat)(e:PE):(lI k e).length=19+e.t.length:=by
 simp only[lI,vV,List.length_append,List.length_cons,List.length_nil];omega
theorem Dn(l:List Int){i:Nat}(hi:i<5):(mL l i).size<=300:=by
 have h1:=(wB l (2*i) (by omega) (eU l (by omega))).2.2.2.1;have h2:=(wB l (2*i+1) (by omega) (eU l (by omega))).2.2.2.1;have:(mL l i).size=(mK (List.range i) (2*i) (E5 l (2*i)) (E5 l (2*i+1))).length:=by simp[mL,ByteArray.size]
 rw[this];unfold mK;simp only[List.length_append,qZ,yO,List.length_range];omega
theorem KC{F:eV}{l:List Int}(h:∀i,i<5->F (hZ i)=some (mL l i)):Made F (E5 l) (V5 l):=by
 refine⟨h,fun k hk=>(wB l k hk (eU l (by omega))).1,fun k hk=>?_,fun k hk=>?_⟩
 . have:=wB l k hk (eU l (by omega))
   exact⟨by omega,by omega⟩
 . have h5:=wB l k hk (eU l (by omega))
   have hc:=PE.val_congr (V:=gJ (cR l k).vs) (V':=V5 l) (m:=k) (fun j hj=>IX l hj) (E5 l k) h5.1;exact⟨hc.1,hc.2.1 h5.2.2.2.2.1,h5.2.2.2.2.2⟩
structure rT (W:World) (l:List Int) (mb f k i:Nat) (tv vv:Value) (wr:World):Prop where
 ms:wA W.heap.size mb l i wr
 lo:Below W.heap.size W wr
 tx:wr.ownsRow W.heap.size 9 1 tv f ((List.range f).map fun j=>.string (mL l j))
 vl:wr.ownsRow W.heap.size 3 1 vv k ((List.range k).map fun j=>.int .i64 (V5 l j:Nat))
 ap:∀b,tv.ownBlock=some b->vv.ownBlock≠some b
 tm:tv.ownBlock≠some mb
 vm:vv.ownBlock≠some mb
section
variable {W:World} {l:List Int} {mb f k i:Nat} {tv vv:Value} {wr w':World}
theorem rT.fr(h:rT W l mb f k i tv vv wr){i':Nat}(hf:FR (· = mb) wr w')(hk:wA W.heap.size mb l i' w'):rT W l mb f k i' tv vv w':=by
 have hlo:=h.lo;have hnm:=h.ms.nm;refine⟨hk,⟨hf.os.trans hlo.os,hf.tape.trans hlo.tape,hf.output.trans hlo.output,Nat.le_trans hlo.size hf.size,fun b hb=>(hf.block b (Nat.lt_of_lt_of_le hb hlo.size) (by omega)).trans (hlo.block b hb)⟩,?_,?_,h.ap,h.tm,h.vm⟩
 . exact bJ h.tx fun g hg=>hf.block g (h.tx.lt g hg).2 fun e=>h.tm (e ▸ hg)
 . exact bJ h.vl fun g hg=>hf.block g (h.vl.lt g hg).2 fun e=>h.vm (e ▸ hg)
theorem rT.below(h:rT W l mb f k i tv vv wr)(hb:Below wr.heap.size wr w'):rT W l mb f k i tv vv w':=h.fr (FR.of_below hb) (h.ms.below hb)
theorem rT.su(h:rT W l mb f k i tv vv wr){a:Option Addr}{c:Nat}(hv:vv = .slice a k c):Dm W mb l (cR l k).vs a i wr:=by
 subst hv;refine⟨h.ms,h.lo,?_⟩;rw[lN,lM];by_cases hk:k=0
 . subst hk
   exact⟨0,fun x=>absurd x (by omega),fun j x hx=>by simp at hx⟩
 . obtain⟨g,hg⟩:∃g,a=some ⟨g,0,none⟩:=by
    obtain⟨_,⟨_,h0⟩|⟨g,c',cur,h1,_⟩⟩:=h.vl
    . exact absurd h0 hk
    . injection h1 with h1 _ _
      exact⟨g,h1⟩
   subst hg;refine⟨g,fun _=>⟨rfl,fun e=>h.vm (e ▸ rfl),(h.vl.lt g rfl).2⟩,fun j x hx=>?_⟩;have hj:j<k:=by have:=(List.getElem?_eq_some_iff.1 hx).1;simpa using this
   rw[h.vl.cellAt j (by omega)];simp[hj] at hx ⊢;rw[hx]
theorem rT.pushV(h:rT W l mb f k i tv vv wr){v':Value}(hown:w'.ownsRow W.heap.size 3 1 v' (k+1) (((List.range k).map fun j=>Value.int .i64 (V5 l j:Nat)) ++ [.int .i64 (V5 l k:Nat)]))(hg:wr.grownBy w' vv.ownBlock)(hloc:v'.ownBlock=vv.ownBlock\/v'.ownBlock=some wr.heap.size):rT W l mb f (k+1) i tv v' w':=by
 have hF:FR (fun b=>vv.ownBlock=some b) wr w':=(FR.refl _ wr).grown hg fun g e=>.inl e;have hlo:=h.lo;have hmb:mb<wr.heap.size:=by obtain⟨_,_,hm,_⟩:=h.ms.ex;exact aB hm
 refine⟨h.ms.fr hF (fun b hb e=>?_) h.vm,hlo.grown hg hlo.size fun q hq=>(h.vl.lt q hq).1,?_,?_,fun b hb e=>?_,h.tm,fun e=>?_⟩
 . have:=(h.vl.lt b e).1;omega
 . exact bJ h.tx fun g hgt=>hF.block g (h.tx.lt g hgt).2 (h.ap g hgt)
 . rw[List.range_succ,List.map_append];exact hown
 . rcases hloc with e2|e2
   . exact h.ap b hb (e2 ▸ e)
   . rw[e2] at e
     have:=(h.tx.lt b hb).2
     injection e with e;omega
 . rcases hloc with e2|e2
   . exact h.vm (e2 ▸ e)
   . rw[e2] at e
     injection e with e;omega
theorem rT.pushT(h:rT W l mb f k i tv vv wr){v':Value}(hown:w'.ownsRow W.heap.size 9 1 v' (f+1) (((List.range f).map fun j=>Value.string (mL l j)) ++ [.string (mL l f)]))(hg:wr.grownBy w' tv.ownBlock)(hloc:v'.ownBlock=tv.ownBlock\/v'.ownBlock=some wr.heap.size):rT W l mb (f+1) k i v' vv w':=by
 have hF:FR (fun b=>tv.ownBlock=some b) wr w':=(FR.refl _ wr).grown hg fun g e=>.inl e;have hlo:=h.lo;have hmb:mb<wr.heap.size:=by obtain⟨_,_,hm,_⟩:=h.ms.ex;exact aB hm
 refine⟨h.ms.fr hF (fun b hb e=>?_) h.tm,hlo.grown hg hlo.size fun q hq=>(h.tx.lt q hq).1,?_,?_,fun b hb e=>?_,fun e=>?_,h.vm⟩
 . have:=(h.tx.lt b e).1;omega
 . rw[List.range_succ,List.map_append];exact hown
 . exact bJ h.vl fun g hgt=>hF.block g (h.vl.lt g hgt).2 fun e=>h.ap g e hgt
 . rcases hloc with e2|e2
   . exact h.ap b (e2 ▸ hb) e
   . rw[e2] at hb
     have:=(h.vl.lt b e).2
     injection hb with hb;omega
 . rcases hloc with e2|e2
   . exact h.tm (e2 ▸ e)
   . rw[e2] at e
     injection e with e;omega
end
def wC(u:Nat):ByteArray:=⟨(lJ (List.range u)).toArray⟩
def tB(l:List Int)(f:Nat):Nat->ByteArray
 | 0=>wC f
 | j+1=>tB l f j++⟨(lI (2*f+j) (E5 l (2*f+j))).toArray⟩
theorem yP:∀(us vs:List Nat),lJ (us++vs)=lJ us++lJ vs
 | [],_=>rfl
 | u::us,vs=>by simp only[List.cons_append,lJ,yP us vs,List.append_assoc]
theorem Fz(u:Nat):wC u++⟨#[117,115,101,32]⟩++bX u++⟨#[59,10]⟩=wC (u+1):=by
 apply ByteArray.ext;apply Array.toList_inj.1;simp[wC,List.range_succ,yP,lJ,ID,Ks,bX]
theorem KD(t:ByteArray)(k:Nat)(e:PE):t++⟨#[112,117,98,32,108,101,116,32]⟩++fC k++⟨#[58,105,110,116,32,61,32]⟩++pA e++⟨#[59,10]⟩=t++⟨(lI k e).toArray⟩:=by
 apply ByteArray.ext;apply Array.toList_inj.1;simp[lI,fC,pA]
theorem Mg(l:List Int)(f:Nat):tB l f 2=mL l f:=by
 apply ByteArray.ext;apply Array.toList_inj.1;simp[tB,wC,mL,mK]
theorem yQ(u:Nat):(wC u).size=7*u:=by
 have:(wC u).size=(lJ (List.range u)).length:=by simp[wC,ByteArray.size]
 rw[this,qZ,List.length_range]

structure mE (W:World) (na:Option Addr) (l:List Int):Prop where
 ex:∃b o:Nat,(0<l.length->na=some ⟨b,o,none⟩/\b<W.heap.size)/\∀(j:Nat) c,l[j]? = some c->W.cell? ⟨b,o+j,none⟩=some (.int .i64 c)
 rng:∀c∈l,ND c
 len:l.length<=1048576
theorem IY{W:World}{na:Option Addr}{nc:Nat}{l:List Int}(h:mE W na l)(o:Obj):rT W l (W.heap.size+1) 0 0 0 (.slice none 0 0) (.slice none 0 0) ((W.alloc o).alloc (.cells #[.slice na l.length nc,.int .i64 0] 49)):=by
 obtain⟨b,o',hb,hc⟩:=h.ex;have hB:=((Below.refl W.heap.size W).alloc (Nat.le_refl _) o).alloc (by simp) (.cells #[.slice na l.length nc,.int .i64 0] 49);have hN:=aI (W.alloc o) (.cells #[.slice na l.length nc,.int .i64 0] 49);rw[show (W.alloc o).heap.size=W.heap.size+1 by simp] at hN;refine⟨⟨⟨na,nc,hN,b,o',hb,fun j c hj=>?_⟩,h.rng,by omega,h.len,Nat.zero_le _⟩,hB,World.ownsRow_nil _ _ _ _,World.ownsRow_nil _ _ _ _,fun b hb=>by simp[Value.ownBlock] at hb,by simp[Value.ownBlock],by simp[Value.ownBlock]⟩;have hl:0<l.length:=by have:=(List.getElem?_eq_some_iff.1 hj).1;omega
 exact aK hB (hc j c hj)
theorem rT.sum{W:World}{l:List Int}{mb f k:Nat}{tv:Value}{a:Option Addr}{c:Nat}{wr:World}(hp:PT W.heap.size W)(hk:k<10)(h:rT W l mb f k (cR l k).i tv (.slice a k c) wr) :
 Calls Tryz.prog 16 #[ptr mb,.slice a k c,.int .i64 2] wr fun e w'=>∃(s:ByteArray) (x:Nat),e = .returned (.tuple #[.string s,.int .i64 x])/\(x<=1000000000000/\s.size<=114)/\((1000<x\/100<s.size)->pA (E5 l k)=⟨#[53]⟩/\V5 l k=5)/\(¬(1000<x\/100<s.size)->pA (E5 l k)=s/\V5 l k=x)/\rT W l mb f k (cR l (k+1)).i tv (.slice a k c) w':=by
 have hc:=NK (vc:=c) hp (by rw[lN];omega) (eU l (k:=k) (by omega)) (h.su rfl);rw[lN] at hc;refine hc.mono ?_;rintro e w'⟨rfl,hf,hk2⟩;have hlen:=lN l k;have h4:=(IL l (vs:=(cR l k).vs) (by omega) (cR l k).i).len;have h5:=(K0 l (vs:=(cR l k).vs) (by omega) (eU l (by omega)) (cR l k).i).1;rw[<-pY] at h4;refine⟨_,_,rfl,⟨h5,h4⟩,fun hx=>?_,fun hx=>?_,h.fr hf hk2⟩
 . rw[pY] at hx
   unfold V5 E5 Fy;rw[if_pos hx];exact⟨rfl,rfl⟩
 . rw[pY] at hx
   unfold V5 E5 Fy;rw[if_neg hx];exact⟨rfl,rfl⟩
theorem rT.vshape{W:World}{l:List Int}{mb f k i:Nat}{tv vv:Value}{wr:World}(h:rT W l mb f k i tv vv wr):(∃a c,tv = .slice a f c)/\∃a c,vv = .slice a k c:=by
 constructor
 . obtain⟨_,⟨h,h0⟩|⟨g,c,_,h,_⟩⟩:=h.tx
   . exact⟨none,0,by rw[h,h0]⟩
   . exact⟨_,_,h⟩
 . obtain⟨_,⟨h,h0⟩|⟨g,c,_,h,_⟩⟩:=h.vl
   . exact⟨none,0,by rw[h,h0]⟩
   . exact⟨_,_,h⟩
theorem Ec(l:List Int){f:Nat}(hf:f<5):∀j,j<=2->(tB l f j).size<=28+119*j
 | 0,_=>by show (wC f).size<=_;rw[yQ];omega
 | j+1,h=>by
  have h1:=Ec l hf j (by omega);have h2:=(wB l (2*f+j) (by omega) (eU l (by omega))).2.2.2.1;have:(⟨(lI (2*f+j) (E5 l (2*f+j))).toArray⟩:ByteArray).size=(lI (2*f+j) (E5 l (2*f+j))).length:=by simp[ByteArray.size]
  show (tB l f j++_).size<=_;rw[ByteArray.size_append,this,yO];omega
theorem IZ:(Tryz.prog.info? 3).map (fun i=>(i.zero,i.size,i.bytes))=some (some (.int .i64 0),1,8):=by kernel_rfl
theorem NN{W:World}{na:Option Addr}{nc:Nat}{l:List Int}(h:mE W na l)(hp:PT W.heap.size W) :
 Calls Tryz.prog 6 #[.agg #[.slice na l.length nc]] W fun e w'=>∃ta tc va vc,e = .returned (.tuple #[.slice ta 5 tc,.slice va 10 vc])/\rT W l (W.heap.size+1) 5 10 (cR l 10).i (.slice ta 5 tc) (.slice va 10 vc) w':=by
 have HST:=hid (IY (nc:=nc) h);have HPT:=hid hp;have hl:=h.len;generalize hn:l.length=n at *;have HN:=hid hn;obtain⟨i0,hi0,hz0,hz1,hz2⟩:=info_parts IZ;obtain⟨p0,hp0,hy0,hy1,hy2⟩:=info_parts vT;clear h hp hn;go_enter Tryz.func6,Tryz.ntmps6;go_wp2_with fail
 have HS0:=hid (HST.out (.cells #[.slice na n nc] 24));clear HST;generalize (W.alloc (.cells #[.slice na n nc] 24)).alloc (.cells #[.slice na n nc,.int .i64 0] 49)=W1 at HS0 ⊢;generalize hmb:W.heap.size+1=mb at HS0 ⊢;have HMB:=hid hmb;clear hmb;go_loopg [5,6,7] 5 (fun fu v5 v6 v7 wr=>∃f,f+fu=5/\v7 = .int .i64 (f:Nat)/\rT W l mb f (2*f) (cR l (2*f)).i v5 v6 wr)
 case atStart=>exact⟨0,by omega,rfl,HS0.out⟩
 case round=>
  clear HS0;obtain⟨f,hf,rfl,hr⟩:=hrel;obtain⟨⟨ta,tc,rfl⟩,⟨va,vc,rfl⟩⟩:=hr.vshape;have HR:=hid hr;clear hr;have hf0:(0:Int)<=(f:Int):=by omega
  by_cases hlt:f<5
  . have hlt2:(f:Int)<5:=by omega
    generalize wr=w0 at *;go_wp2_with fail
    go_loopg [8,9] f (fun fu v8 v9 wx=>∃u,u+fu=f/\v9 = .int .i64 (u:Nat)/\v8 = .string (wC u)/\Below w0.heap.size w0 wx)
    case atStart=>exact⟨0,by omega,rfl,rfl,Below.refl _ _⟩
    case round=>
     obtain⟨u,hu,rfl,rfl,hb⟩:=hrel;have HB:=hid hb;clear hb;have hu0:(0:Int)<=(u:Int):=by omega
     by_cases hul:u<f
     . have hul2:(u:Int)<(f:Int):=by omega
       have HF:Hid (∀W,Calls Tryz.prog 10 #[.int .i64 (u:Nat)] W fun e w'=>e = .returned (.string (bX u))/\w'=W):=hid fun W=>Ir u (by omega) W;have HU:=hid (Fz u);have hz:=yQ u;have hz2:(bX u).size=1:=rfl;generalize wC u=s at *;generalize bX u=fl at *;have q1:¬(9223372036854775807<s.size+4):=by omega
       have q2:¬(9223372036854775807<s.size+4+fl.size):=by omega
       have q3:¬(9223372036854775807<s.size+4+fl.size+2):=by omega
       go_wp2_with fail
       refine (HF.out _).mono ?_;rintro e w2⟨rfl,rfl⟩;go_wp2;go_roundg (f-(u+1))
       case rel=>exact⟨u+1,by omega,by go_num,congrArg Value.string HU.out,HB.out⟩
       case measure=>omega
     . have hue:u=f:=by omega
       subst hue;have hul2:¬((u:Int)<(u:Int)):=by omega
       have HR2:=hid (HR.out.below HB.out);clear HR HB;go_wp2_with fail
       go_loopg [6,8,10] 2 (fun fu v6 v8 v10 wx=>∃j,j+fu=2/\v10 = .int .i64 (j:Nat)/\v8 = .string (tB l u j)/\rT W l mb u (2*u+j) (cR l (2*u+j)).i (.slice ta u tc) v6 wx)
       case atStart=>exact⟨0,by omega,rfl,rfl,HR2.out⟩
       case round=>
        clear HR2;obtain⟨j,hj,rfl,rfl,hg⟩:=hrel;obtain⟨_,⟨va,vc,rfl⟩⟩:=hg.vshape;have HG:=hid hg;clear hg;have hj0:(0:Int)<=(j:Int):=by omega
        by_cases hj2:j<2
        . have hj3:(j:Int)<2:=by omega
          have HS:=hid (HG.out.sum HPT.out (by omega));have htb:=Ec l (f:=u) (by omega) j (by omega);have hk10:2*u+j<10:=by omega
          have HTB:Hid (tB l u (j+1)=tB l u j++⟨(lI (2*u+j) (E5 l (2*u+j))).toArray⟩):=hid rfl;have hkk:2*u+(j+1)=2*u+j+1:=by omega
          have HKK:=hid hkk;clear hkk;generalize tB l u j=t at *;generalize 2*u+j=k at *;have HNM:Hid (∀W,Calls Tryz.prog 11 #[.int .i64 (k:Nat)] W fun e w'=>e = .returned (.string (fC k))/\w'=W):=hid fun W=>Eb k hk10 W;have hnz:(fC k).size=2:=rfl;go_wp2_with fail
          refine HS.out.mono ?_;rintro e w2⟨sx,x,rfl,⟨hx1,hx2⟩,hcap,hnc,hg2⟩;have HG2:=hid hg2;have HC1:=hid hcap;have HC2:=hid hnc;have HL:=hid (KD t k (E5 l k));clear hg2 hcap hnc HG HS;by_cases hx:1000<x\/100<sx.size
          . obtain⟨e1,e2⟩:=HC1.out hx
            have HXX:=hid (show (1000:Int)<x\/(¬(1000:Int)<x)/\(100:Int)<sx.size by omega);rw[e1] at HL;have HE2:=hid e2;generalize fC k=nm at *;have q1:¬(9223372036854775807<t.size+8):=by omega
            have q2:¬(9223372036854775807<t.size+8+nm.size):=by omega
            have q3:¬(9223372036854775807<t.size+8+nm.size+7):=by omega
            have q4:¬(9223372036854775807<t.size+8+nm.size+7+1):=by omega
            have q5:¬(9223372036854775807<t.size+8+nm.size+7+1+2):=by omega
            clear e1 e2 hx HC1 HC2;rcases HXX.out with hxa|⟨hxa,hxb⟩
            all_goals
             go_wp2_with fail
             refine (HNM.out _).mono ?_;rintro e w3⟨rfl,rfl⟩;have hown0:=HG2.out.vl;have hlo0:=HG2.out.lo.size;go_wp2_with (at_builtin;go_must (refine wpList_append_own_at _ rfl _ _ 22 rfl W.heap.size 3 i0 (.int .i64 0) 1 8 Tryz.underlying22 hi0 hz0 hz1 hz2 rfl (by decide) _ _ _ rfl (hown0.alloc _) ⟨w3.heap.size,0,none⟩ 1 1 [.int .i64 5] rfl rfl ?_ ?_ ?_ ?_ ?_ ?_))
             all_goals first
              | (intro j u hj
                 match j,hj with
                 | 0,hj=>simp at hj;subst hj;exact World.cell?_alloc_at _ _ _ _ (by simp)
                 | (n+1),hj=>simp at hj)
              | (intro u hu;simp at hu;subst hu;rfl)
              | (unfold maxLen;omega)
              | omega
              | (simp;omega)
              | skip
             intro v' w4 hown' hgrow hnil hloc;have HG4:=hid ((HG2.out.below (aG _ _)).pushV (by rw[HE2.out];exact hown') hgrow (by simpa using hloc));obtain⟨_,⟨v4,c4,rfl⟩⟩:=HG4.out.vshape;clear hown' hgrow hnil hloc hown0 hlo0;go_wp2;go_roundg (2-(j+1))
             case rel=>exact⟨j+1,by omega,by go_num,congrArg Value.string (HL.out.trans HTB.out.symm),by rw[HKK.out];exact HG4.out⟩
             case measure=>omega
          . obtain⟨e1,e2⟩:=HC2.out hx
            have hxa:¬(1000<(x:Int)):=by omega
            have hxb:¬(100<(sx.size:Int)):=by omega
            rw[e1] at HL;have HE2:=hid e2;generalize fC k=nm at *;have q1:¬(9223372036854775807<t.size+8):=by omega
            have q2:¬(9223372036854775807<t.size+8+nm.size):=by omega
            have q3:¬(9223372036854775807<t.size+8+nm.size+7):=by omega
            have q4:¬(9223372036854775807<t.size+8+nm.size+7+sx.size):=by omega
            have q5:¬(9223372036854775807<t.size+8+nm.size+7+sx.size+2):=by omega
            clear e1 e2 hx HC1 HC2;go_wp2_with fail
            refine (HNM.out _).mono ?_;rintro e w3⟨rfl,rfl⟩;have hown0:=HG2.out.vl;have hlo0:=HG2.out.lo.size;go_wp2_with (at_builtin;go_must (refine wpList_append_own_at _ rfl _ _ 22 rfl W.heap.size 3 i0 (.int .i64 0) 1 8 Tryz.underlying22 hi0 hz0 hz1 hz2 rfl (by decide) _ _ _ rfl (hown0.alloc _) ⟨w3.heap.size,0,none⟩ 1 1 [.int .i64 x] rfl rfl ?_ ?_ ?_ ?_ ?_ ?_))
            all_goals first
             | (intro j u hj
                match j,hj with
                | 0,hj=>simp at hj;subst hj;exact World.cell?_alloc_at _ _ _ _ (by simp)
                | (n+1),hj=>simp at hj)
             | (intro u hu;simp at hu;subst hu;rfl)
             | (unfold maxLen;omega)
             | omega
             | (simp;omega)
             | skip
            intro v' w4 hown' hgrow hnil hloc;have HG4:=hid ((HG2.out.below (aG _ _)).pushV (by rw[HE2.out];exact hown') hgrow (by simpa using hloc));obtain⟨_,⟨v4,c4,rfl⟩⟩:=HG4.out.vshape;clear hown' hgrow hnil hloc hown0 hlo0;go_wp2;go_roundg (2-(j+1))
            case rel=>exact⟨j+1,by omega,by go_num,congrArg Value.string (HL.out.trans HTB.out.symm),by rw[HKK.out];exact HG4.out⟩
            case measure=>omega
        . have hje:j=2:=by omega
          subst hje;have hj3:¬(((2:Nat):Int)<2):=by omega
          rw[show 2*u+2=2*(u+1) by omega] at HG;have HTX:=hid (Mg l u);have hown0:=HG.out.tx;have hlo0:=HG.out.lo.size;rw[HTX.out];obtain⟨tx,htx⟩:∃tx,tx=mL l u:=⟨_,rfl⟩
          have HTX2:=hid htx;rw[<-htx];clear htx;go_wp2_with (at_builtin;go_must (refine wpList_append_own_at _ rfl _ _ 25 rfl W.heap.size 9 p0 (.string bA) 1 16 Tryz.underlying25 hp0 hy0 hy1 hy2 rfl (by decide) _ _ _ rfl (hown0.alloc _) ⟨wr.heap.size,0,none⟩ 1 1 [.string tx] rfl rfl ?_ ?_ ?_ ?_ ?_ ?_))
          all_goals first
           | (intro j u hj
              match j,hj with
              | 0,hj=>simp at hj;subst hj;exact World.cell?_alloc_at _ _ _ _ (by simp)
              | (n+1),hj=>simp at hj)
           | (intro u hu;simp at hu;subst hu;rfl)
           | (unfold maxLen;omega)
           | omega
           | (simp;omega)
           | rfl
           | skip
          intro v' w4 hown' hgrow hnil hloc;have HG4:=hid ((HG.out.below (aG _ _)).pushT (by rw[<-HTX2.out];exact hown') hgrow (by simpa using hloc));obtain⟨⟨v4,c4,rfl⟩,_⟩:=HG4.out.vshape;clear hown' hgrow hnil hloc hown0 hlo0;go_wp2;go_roundg (5-(u+1))
          case rel=>exact⟨u+1,by omega,by go_num,HG4.out⟩
          case measure=>omega
  . have hfe:f=5:=by omega
    subst hfe;have hlt2:¬(((5:Nat):Int)<5):=by omega
    go_wp2;go_ret2;rw[HMB.out];exact⟨ta,tc,va,vc,rfl,HR.out⟩

structure FA (W0:World) (bs:Nat) (Xs:List ByteArray) (i:Nat) (wr:World):Prop where
 ex:∃(st:St V) (L:aM) (fm:Value) (fs:List (ByteArray×ByteArray)),bN st L none bs fm wr/\qR W0 fs st.files L fm wr/\Raw st/\st.rev<=i/\fs.length<=i/\(∀f x,st.files f=some x->∃j,j<i/\f=bX j)/\∀j,j<i->st.files (bX j)=Xs[j]?
theorem FA.below{W0:World}{bs i:Nat}{Xs:List ByteArray}{wr w':World}(h:FA W0 bs Xs i wr)(hb:Below wr.heap.size wr w'):FA W0 bs Xs i w':=by
 obtain⟨st,L,fm,fs,h1,h2,h3⟩:=h.ex;exact⟨st,L,fm,fs,h1.below hb,h2.below hb,h3⟩
theorem FA.low{W0:World}{bs i:Nat}{Xs:List ByteArray}{wr:World}(h:FA W0 bs Xs i wr):Below W0.heap.size W0 wr:=by
 obtain⟨st,L,fm,fs,_,h2,_⟩:=h.ex;exact h2.low
theorem FA.set{W0:World}{bs i:Nat}{Xs:List ByteArray}{wr:World}(h:FA W0 bs Xs i wr)(hi:i<6){t:ByteArray}(hx:Xs[i]? = some t)(ht:t.size<=400) :
 Calls Tryz.prog 18 #[ptr bs,.string (bX i),.string t] wr fun e w'=>∃c:Int,e = .returned (.int .i64 c)/\FA W0 bs Xs (i+1) w':=by
 obtain⟨st,L,fm,fs,h1,h2,h3,h4,h5,h6,h7⟩:=h.ex;have hnew:st.files (bX i)=none:=by
  cases hf:st.files (bX i) with
  | none=>rfl
  | some x=>
   obtain⟨j,hj,e⟩:=h6 _ x hf;have:=qT hi (by omega) e
   omega
 refine (LY h1 h2 (BV hi) hnew (by omega) (by omega) (by unfold maxLen;omega)).mono ?_;rintro e w'⟨rfl,hp⟩;refine⟨_,rfl,?_⟩;unfold nH at hp;rw[if_pos ht] at hp;obtain⟨L',fm',hE,hF⟩:=hp;have hset:∀f,(({st with began:=[]}:St V).setF (bX i) t).files f=if f=bX i then some t else st.files f:=fun f=>rfl;refine⟨_,L',fm',_,hE,hF,h3.beg.setF _ _,?_,by simp;omega,fun f x hx=>?_,fun j hj=>?_⟩
 . rw[BW];show st.rev+1<=i+1;omega
 . by_cases hfi:f=bX i
   . exact⟨i,by omega,hfi⟩
   . rw[hset,if_neg hfi] at hx
     obtain⟨j,hj,e⟩:=h6 f x hx;exact⟨j,by omega,e⟩
 . rw[hset]
   by_cases hji:j=i
   . subst hji;rw[if_pos rfl,hx]
   . rw[if_neg fun e=>hji (qT (by omega) hi e)]
     exact h7 j (by omega)
theorem As{W w4:World}(Xs:List ByteArray)(h:Below (W.alloc kU).heap.size (W.alloc kU) w4):FA W W.heap.size Xs 0 w4:=by
 have h0:=aI W kU;have h1:w4.heap[W.heap.size]? = some kU:=below_heap h (aB h0) h0;obtain⟨hE,hF⟩:=D5 (W0:=W) h1 (aF (aG W kU) h) (Nat.le_refl _);exact⟨_,_,_,_,hE,hF,D6,Nat.le_refl _,Nat.le_refl _,fun f x hx=>by simp[gS] at hx,fun j hj=>by omega⟩
theorem Mh{W:World}{a:Option Addr}{Xs:List ByteArray}{c:Nat}(hT:N5 W a Xs)(h400:∀X∈Xs,X.size<=400)(h6:Xs.length<=6)(hp:PT W.heap.size W)(he:∀W1,Below W.heap.size W W1->yG W1) :
 Calls Tryz.prog 7 #[.slice a Xs.length c] W fun e w'=>e = .returned (.tuple #[.pointer (some ⟨W.heap.size,0,none⟩),.bool true])/\FA W W.heap.size Xs Xs.length w':=by
 have HT:=hid hT;have H400:=hid h400;have H6:=hid h6;have HN2:=hid (Nq (W.alloc kU));have hsz:(W.alloc kU).heap.size=W.heap.size+1:=by simp
 have HKS:Hid (Calls Tryz.prog 18 #[.pointer (some ⟨W.heap.size+1,0,none⟩),.string ⟨#[122]⟩,.string ⟨#[112,117,98,32,108,101,116,32,113,58,105,110,116,32,61,32,50,32,42,32,51,32,43,32,119,59,32,108,101,116,32,119,58,105,110,116,32,61,32,52,59]⟩] ((W.alloc kU).alloc kU) fun e w'=>e = .returned (.int .i64 0)/\∃L fm,bN (({gS with began:=[]}:St V).setF zF dG) L none (W.heap.size+1) fm w'/\qR (W.alloc kU) ([] ++ [(zF,dG)]) (({gS with began:=[]}:St V).setF zF dG).files L fm w'):=hid (by
  have h:=Is (W1:=W.alloc kU);rw[hsz] at h;exact h)
 have HBS:=hid (fun w4 h=>As (W:=W) Xs (w4:=w4) h);have HKC:Hid (∀(w:World) (fm:Value) (L:aM),bN (({gS with began:=[]}:St V).setF zF dG) L none (W.heap.size+1) fm w->qR (W.alloc kU) ([] ++ [(zF,dG)]) (({gS with began:=[]}:St V).setF zF dG).files L fm w->Calls Tryz.prog 9 #[.pointer (some ⟨W.heap.size+1,0,none⟩),.int .i64 7,.string ⟨#[122]⟩,.string ⟨#[113]⟩] w fun e w'=>e = .returned (.tuple #[.string ⟨#[49,48]⟩,.int .i64 0])/\Below (W.alloc kU).heap.size (W.alloc kU) w'):=hid (fun w fm L h1 h2=>LZ (mJ hp (aG W kU)) (he _ (aG W kU)) h1 h2);obtain⟨n,hn⟩:∃n,n=Xs.length:=⟨_,rfl⟩
 have hnm:(n:Int)<=9223372036854775807:=by have:=hT.ln;unfold maxLen at this;omega
 rw[<-hn];have HN:=hid hn;clear hT h400 h6 hp he hn hsz;go_enter Tryz.func7,Tryz.ntmps7;go_wp2_with fail
 refine (Nq W).mono ?_;rintro e w1⟨rfl,rfl⟩;go_wp2_with fail
 refine HN2.out.mono ?_;rintro e w2⟨rfl,rfl⟩;go_wp2_with fail
 refine HKS.out.mono ?_;rintro e w3⟨rfl,L3,fm3,hE3,hF3⟩;have HK3:=hid (HKC.out w3 fm3 L3 hE3 hF3);clear hE3 hF3 HKS HKC HN2;go_wp2_with fail
 refine HK3.out.mono ?_;rintro e w4⟨rfl,hb4⟩;have HG:=hid (HBS.out w4 hb4);clear hb4 HBS HK3;go_wp2;generalize hbs:W.heap.size=bs at HG ⊢;go_loopg [9] 6 (fun f v9 wr=>∃i,i+f=6/\i<=n/\v9 = .int .i64 (i:Nat)/\FA W bs Xs i wr)
 case atStart=>exact⟨0,by omega,Nat.zero_le _,rfl,HG.out⟩
 case round=>
  clear HG;obtain⟨i,hi,hil,rfl,hg⟩:=hrel;have HI:=hid hg;clear hg;have hi0:(0:Int)<=(i:Int):=by omega
  by_cases hin:i<n
  . have hin2:(i:Int)<(n:Int):=by omega
    by_cases hi6:i<6
    . have hi62:(i:Int)<6:=by omega
      obtain⟨X,hX⟩:∃X,Xs[i]? = some X:=⟨_,List.getElem?_eq_getElem (by have:=HN.out;omega)⟩
      obtain⟨b,o,hao,hcell⟩:=HT.out.ex;obtain⟨rfl,hbl⟩:=hao (by have:=HN.out;omega);have c0:wr.cell? ⟨b,o+i,none⟩=some (.string X):=aK HI.out.low (hcell i X hX);have HX:=hid (H400.out X (List.mem_of_getElem? hX));have HXX:=hid hX;have HI6:=hid hi6;clear hX hcell hbl hao hi6;go_wp2_with fail
      go_region_with (first
       | (go_at_call 10;go_must (refine (Ir i HI6.out _).mono ?_;rintro e w2⟨rfl,rfl⟩))
       | (go_at_call 18;go_must (refine ((HI.out.below (by first|exact Below.refl _ _|exact below_drewN _ _)).set HI6.out HXX.out HX.out).mono ?_;rintro e w3⟨cc,rfl,hg3⟩;have HG3:=hid hg3;clear hg3)))
      all_goals go_wp2
      all_goals go_roundg (6-(i+1))
      all_goals first
       | exact⟨i+1,by have:=HI6.out;omega,by omega,by go_num,HG3.out⟩
       | exact⟨i+1,by have:=HI6.out;omega,by omega,by go_num,HG3.out.below (below_drewN _ _)⟩
       | (have:=HI6.out;omega)
    . exact absurd (show i<6 by have:=H6.out;have:=HN.out;omega) hi6
  . have hin2:¬((i:Int)<(n:Int)):=by omega
    go_wp2;go_ret2;have hie:i=n:=by omega
    subst hie;exact⟨rfl,HI.out⟩

theorem I3{Xs:List ByteArray}(h:Xs.Nodup){i j:Nat}{x:ByteArray}(hi:Xs[i]? = some x)(hj:Xs[j]? = some x):i=j:=by
 obtain⟨h1,h2⟩:=List.getElem?_eq_some_iff.1 hi;obtain⟨h3,h4⟩:=List.getElem?_eq_some_iff.1 hj;exact (List.getElem_inj h).1 (h2.trans h4.symm)
theorem I4{w:World}{a:Option Addr}{Xs:List ByteArray}{c:Nat}(hT:N5 w a Xs) :
 Calls Tryz.prog 15 #[.slice a Xs.length c] w fun e w'=>(∃b:Bool,e = .returned (.bool b)/\(Xs.Nodup->b=false))/\Below w.heap.size w w':=by
 have HT:=hid hT;obtain⟨n,hn⟩:∃n,n=Xs.length:=⟨_,rfl⟩
 have hnm:(n:Int)<=9223372036854775807:=by have:=hT.ln;unfold maxLen at this;omega
 rw[<-hn];have HN:=hid hn;clear hT hn;go_enter Tryz.func15,Tryz.ntmps15;go_wp2;go_loopg [3] n (fun f v2 wr=>∃i,i+f=n/\v2 = .int .i64 (i:Nat)/\Below w.heap.size w wr)
 case atStart=>exact⟨0,by omega,rfl,Below.refl _ _⟩
 case round=>
  obtain⟨i,hi,rfl,hb0⟩:=hrel;have HB0:=hid hb0;have hi0:(0:Int)<=(i:Int):=by omega
  clear hb0;by_cases hin:i<n
  . have hin2:(i:Int)<(n:Int):=by omega
    obtain⟨x,hx⟩:∃x,Xs[i]? = some x:=⟨_,List.getElem?_eq_getElem (by have:=HN.out;omega)⟩
    obtain⟨b,o,hao,hcell⟩:=HT.out.ex;obtain⟨rfl,hbl⟩:=hao (by have:=HN.out;omega);have HC:=hid hcell;have HX:=hid hx;clear hcell hx hao;generalize wr=w0 at *;go_wp2_with fail
    go_loopg [4] i (fun f v3 wx=>∃j,j+f=i/\v3 = .int .i64 (j:Nat)/\Below w.heap.size w wx)
    case atStart=>exact⟨0,by omega,rfl,HB0.out⟩
    case round=>
     obtain⟨j,hj,rfl,hb1⟩:=hrel;have HB1:=hid hb1;have hj0:(0:Int)<=(j:Int):=by omega
     clear hb1;by_cases hjn:j<i
     . have hjn2:(j:Int)<(i:Int):=by omega
       have hjn3:(j:Int)<(n:Int):=by omega
       obtain⟨y,hy⟩:∃y,Xs[j]? = some y:=⟨_,List.getElem?_eq_getElem (by have:=HN.out;omega)⟩
       have c0:wr.cell? ⟨b,o+i,none⟩=some (.string x):=aK HB1.out (HC.out i x HX.out);have c1:wr.cell? ⟨b,o+j,none⟩=some (.string y):=aK HB1.out (HC.out j y hy);have HY:=hid hy;clear hy;by_cases he:x=y
       . subst he
         go_wp2;go_quiet (fail)
         go_wp2;go_ret;exact⟨⟨true,rfl,fun hd=>absurd (I3 hd HX.out HY.out) (by omega)⟩,aF HB1.out (below_drewN _ _)⟩
       . have he3:(x.toList==y.toList)=false:=cP he
         go_wp2;go_quiet (fail)
         go_wp2;go_roundg (i-(j+1))
         all_goals first
          | exact⟨j+1,by omega,by go_num,aF HB1.out (below_drewN _ _)⟩
          | omega
     . have hje:j=i:=by omega
       subst hje;have hjn2:¬((j:Int)<(j:Int)):=by omega
       go_wp2;go_roundg (n-(j+1))
       all_goals first
        | exact⟨j+1,by omega,by go_num,HB1.out⟩
        | omega
  . have hin2:¬((i:Int)<(n:Int)):=by omega
    go_wp2;refine bodyPost_ret (v:=.bool false) (by simp[results,Tryz.results15,go_sem]) rfl ?_;exact⟨.inl rfl,HB0.out⟩

def K1:List ByteArray:=(List.range 5).map bX
theorem I5{j:Nat}(hj:j<5):bX j∈K1:=List.mem_map.2 ⟨j,List.mem_range.2 hj,rfl⟩
def o8(l:List Int):List ByteArray:=(List.range 5).map (mL l)
theorem mF(l:List Int):(o8 l).length=5:=by simp[o8]
theorem wD(l:List Int){j:Nat}(hj:j<5):(o8 l)[j]? = some (mL l j):=by
 unfold o8;rw[List.getElem?_map,List.getElem?_range hj];rfl
theorem pZ(l:List Int):∀X∈o8 l,X.size<=400:=fun X hX=>by
 obtain⟨j,hj,rfl⟩:=List.mem_map.1 hX;have:=Dn l (List.mem_range.1 hj)
 omega
theorem rT.txs{W:World}{l:List Int}{mb k i:Nat}{ta:Option Addr}{tc:Nat}{vv:Value}{wr:World}(h:rT W l mb 5 k i (.slice ta 5 tc) vv wr):N5 wr ta (o8 l):=by
 obtain⟨g,hg⟩:∃g,ta=some ⟨g,0,none⟩:=by
  obtain⟨_,⟨_,h0⟩|⟨g,c',cur,h1,_⟩⟩:=h.tx
  . exact absurd h0 (by decide)
  . injection h1 with h1 _ _
    exact⟨g,h1⟩
 subst hg;refine⟨⟨g,0,fun _=>⟨rfl,(h.tx.lt g rfl).2⟩,fun j X hX=>?_⟩,fun X hX=>?_,?_⟩
 . have hj:j<5:=by have:=(List.getElem?_eq_some_iff.1 hX).1;rwa[mF] at this
   rw[wD l hj] at hX;cases hX;rw[Nat.zero_add,h.tx.cellAt j (by omega)];simp[hj]
 . have:=pZ l X hX
   unfold maxLen;omega
 . rw[mF];unfold maxLen;omega
theorem mE.below{W W':World}{na:Option Addr}{l:List Int}(h:mE W na l)(hb:Below W.heap.size W W'):mE W' na l:=by
 obtain⟨b,o,h1,h2⟩:=h.ex;exact⟨⟨b,o,fun h0=>⟨(h1 h0).1,Nat.lt_of_lt_of_le (h1 h0).2 hb.size⟩,fun j c hj=>aK hb (h2 j c hj)⟩,h.rng,h.len⟩
theorem I6(k:Nat)(hk:k<10)(W:World):Calls Tryz.prog 10 #[.int .i64 ((k:Int) / 2)] W fun e w'=>e = .returned (.string (bX (k / 2)))/\w'=W:=by
 rw[show ((k:Int) / 2)=((k / 2:Nat):Int) by omega];exact Ir (k / 2) (by omega) W
structure OI (W1:World) (l:List Int) (F:eV) (v:ByteArray->ByteArray->ByteArray):Prop where
 fi:D4 W1 F v K1
 md:Made F (E5 l) (V5 l)
theorem I7:(List.range 8).all (fun q=>(List.range 10).all fun k=>decide (mA (1+(q:Int)) (bX (k / 2)) (fC k)=0))=true:=by kernel_rfl
theorem OJ{q k:Nat}(hq:q<8)(hk:k<10):mA (1+(q:Int)) (bX (k / 2)) (fC k)=0:=
 of_decide_eq_true (List.all_eq_true.1 (List.all_eq_true.1 I7 q (List.mem_range.2 hq)) k (List.mem_range.2 hk))
theorem NO{q k:Nat}(hq:q<8)(hk:k<10):G5 (qK (1+(q:Int)) (bX (k / 2)) (fC k)):=by
 refine⟨⟨k / 2,by omega,rfl⟩,?_⟩;rcases (show q=0\/q=1\/q=2\/q=3\/q=4\/q=5\/q=6\/q=7 by omega) with rfl|rfl|rfl|rfl|rfl|rfl|rfl|rfl
 . exact .inl ⟨.inl rfl,rfl⟩
 . exact .inl ⟨.inr (.inl rfl),rfl⟩
 . exact .inl ⟨.inr (.inr (.inl rfl)),rfl⟩
 . exact .inl ⟨.inr (.inr (.inr (.inl rfl))),rfl⟩
 . exact .inr ⟨.inl rfl,k,hk,rfl⟩
 . exact .inr ⟨.inr (.inl rfl),k,hk,rfl⟩
 . exact .inr ⟨.inr (.inr rfl),k,hk,rfl⟩
 . exact .inl ⟨.inr (.inr (.inr (.inr rfl))),rfl⟩
theorem B3:(let l:=Kv.map fun x=>gM (Dj x);l.all fun x=>decide (x.size<=20)&&decide ((l.filter fun y=>decide (y.data.toList=x.data.toList)).length=1))=true:=by kernel_rfl
theorem filter_one{α:Type}{p:α->Bool}:∀{l:List α} {i j:Nat} {x y:α},(l.filter p).length=1->l[i]? = some x->l[j]? = some y->p x=true->p y=true->i=j
 | [],_,_,_,_,_,hi,_,_,_=>by simp at hi
 | a::l,0,0,_,_,_,_,_,_,_=>rfl
 | a::l,0,j+1,x,y,h,hi,hj,hx,hy=>by
  simp only[List.getElem?_cons_zero,Option.some.injEq] at hi;subst hi;rw[List.filter_cons_of_pos hx,List.length_cons] at h;have h2:l.filter p = []:=List.length_eq_zero_iff.1 (by omega);have h3:y∈l.filter p:=List.mem_filter.2 ⟨List.mem_of_getElem? (by simpa using hj),hy⟩;rw[h2] at h3;simp at h3
 | a::l,i+1,0,x,y,h,hi,hj,hx,hy=>by
  simp only[List.getElem?_cons_zero,Option.some.injEq] at hj;subst hj;rw[List.filter_cons_of_pos hy,List.length_cons] at h;have h2:l.filter p = []:=List.length_eq_zero_iff.1 (by omega);have h3:x∈l.filter p:=List.mem_filter.2 ⟨List.mem_of_getElem? (by simpa using hi),hx⟩;rw[h2] at h3;simp at h3
 | a::l,i+1,j+1,x,y,h,hi,hj,hx,hy=>by
  have h1:x∈l.filter p:=List.mem_filter.2 ⟨List.mem_of_getElem? (by simpa using hi),hx⟩;have h0:0<(l.filter p).length:=List.length_pos_of_mem h1;have h2:(l.filter p).length=1:=by
   rw[List.filter_cons] at h;split at h
   . simp only[List.length_cons] at h;omega
   . exact h
  exact congrArg (· + 1) (filter_one h2 (by simpa using hi) (by simpa using hj) hx hy)
theorem KE{k:K}(h:G5 k):(gM k).size<=20:=by
 obtain⟨x,hx,rfl⟩:=Ap h;have:=List.all_eq_true.1 B3 _ (List.mem_map.2 ⟨x,hx,rfl⟩)
 simp only[Bool.and_eq_true,decide_eq_true_eq] at this;exact this.1
theorem I8{k j:K}(hk:G5 k)(hj:G5 j)(h:gM k=gM j):k=j:=by
 obtain⟨x,hx,rfl⟩:=Ap hk;obtain⟨y,hy,rfl⟩:=Ap hj;have:=List.all_eq_true.1 B3 _ (List.mem_map.2 ⟨x,hx,rfl⟩)
 simp only[Bool.and_eq_true,decide_eq_true_eq] at this;obtain⟨a,ha⟩:=List.getElem?_of_mem hx;obtain⟨b,hb⟩:=List.getElem?_of_mem hy;have e:=filter_one (i:=a) (j:=b) this.2 (by rw[List.getElem?_map,ha];rfl) (by rw[List.getElem?_map,hb];rfl) (by simp) (by rw[h];simp);subst e;rw[ha] at hb;cases hb;rfl
theorem wE{l:List K}(hn:l.Nodup)(hg:∀x∈l,G5 x):(l.map gM).Nodup:=by
 induction l with
 | nil=>exact List.nodup_nil
 | cons x l ih=>
  rw[List.nodup_cons] at hn;rw[List.map_cons,List.nodup_cons];refine⟨fun h=>?_,ih hn.2 fun y hy=>hg y (List.mem_cons_of_mem _ hy)⟩;obtain⟨y,hy,e⟩:=List.mem_map.1 h;exact hn.1 (I8 (hg y (List.mem_cons_of_mem _ hy)) (hg x (by simp)) e ▸ hy)
abbrev nJ(l:List K):List Value:=l.map fun k=>.string (gM k)
theorem Ed{w:World}{B:Nat}{x:Value}{l:List K}(h:w.ownsRow B 9 1 x l.length (nJ l))(hg:∀k∈l,G5 k)(hl:l.length<=200000000):∃a c,x = .slice a (l.map gM).length c/\N5 w a (l.map gM):=by
 have hlen:(l.map gM).length=l.length:=List.length_map _;rw[hlen];have hsz:∀X∈l.map gM,X.size<=maxLen:=fun X hX=>by
  obtain⟨k,hk,rfl⟩:=List.mem_map.1 hX;have:=KE (hg k hk)
  unfold maxLen;omega
 have hln:(l.map gM).length<=maxLen:=by rw[hlen];unfold maxLen;omega
 have h0:=h;obtain⟨_,⟨h1,h2⟩|⟨g,c,cur,h1,_⟩⟩:=h
 . have hnil:l = []:=List.length_eq_zero_iff.1 h2
   subst hnil;exact⟨none,0,h1,⟨⟨0,0,fun h=>by simp at h,fun j X hX=>by simp at hX⟩,hsz,hln⟩⟩
 . subst h1
   refine⟨_,c,rfl,⟨⟨g,0,fun _=>⟨rfl,(h0.lt g rfl).2⟩,fun j X hX=>?_⟩,hsz,hln⟩⟩;have hj:j<l.length:=by have:=(List.getElem?_eq_some_iff.1 hX).1;rwa[hlen] at this
   rw[Nat.zero_add,h0.cellAt j (by omega)];rw[List.getElem?_map] at hX;obtain⟨k,hk,rfl⟩:=Option.map_eq_some_iff.1 hX;simp[nJ,hk]
end Go.Proofs.YthibodlojlkppaaGreatDoor

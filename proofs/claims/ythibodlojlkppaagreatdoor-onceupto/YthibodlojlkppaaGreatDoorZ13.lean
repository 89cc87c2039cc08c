import Derived.Test.YthibodlojlkppaaGreatDoorZ05
import Derived.RegionDies
set_option linter.all false
set_option maxRecDepth 100000
set_option maxHeartbeats 40000000
namespace Go.Proofs.YthibodlojlkppaaGreatDoor
open Go.RowKit
variable [DecidableEq K] [LawfulBEq Lk]
theorem Ho{W0:World}{st s1:St V}{L:aM}{bs:Nat}{fm:Value}{w:World}{k:K}(h2:k.kind≠2)(h3:k.kind≠3)(h4:k.kind≠4)(h:bN st L none bs fm w)(hFM:FM W0 st.files L fm w)(hk:st.sl k≠none)(hbl:st.began.length<cD){v:V}{lk:List Lk}{st2:St V}(ha:answer s1 k v=some st2)
 (HX0:∀(B:Nat) (L6:aM) (W:World) (lb:Nat),bN {st with began:=st.began ++ [k]} L6 none bs fm W->FM W0 st.files L6 fm W->sB {st with began:=st.began ++ [k]} L6 bs lb B [] W->W0.heap.size<=lb->W0.heap.size<=B->(∀b,L6.own b->b<B)->Calls Tryz.prog (cF k.kind) #[ptr bs,ptr lb,cM k] W (bM B {st with began:=st.began ++ [k]} L6 bs lb fm k.kind (.ok (v,lk)) s1 W)) :
 Calls Tryz.prog 227 #[ptr (L.bk k)] w (dL st L bs fm (.ok ()) st2 w):=by
 obtain⟨m,hsl⟩:=Option.ne_none_iff_exists'.1 hk;obtain⟨q,sm,bg,kv,arr,h⟩:=h;obtain⟨x0,vs,sb,hval0⟩:=(h.cell k m hsl).ex;have hTB:TB k=175:=by simp[TB,h2,h3,h4]
 obtain⟨wf,hwf⟩:∃wf,wf=cF k.kind:=⟨_,rfl⟩
 rw[<-hwf] at HX0;have hru:cB bs k.kind = [.func (.func wf) #[ptr bs] #[],.func (.func 89) #[] #[],.string (if k.kind=7 then dA else bA)]:=by simp[cB,h2,h3,h4,hwf]
 rw[show ∀p xs,SB w p (TB k) xs=SB w p 175 xs from fun _ _=>by rw[hTB]] at sb;have hcw:∀(args:Array Value) (w:World),(callFunc wf args).run Tryz.prog w = .ok (.enter wf args) w:=by
  intro args w;subst hwf;unfold cF;repeat' split
  all_goals kernel_rfl
 obtain⟨p,hp⟩:∃p,p=L.bk k:=⟨_,rfl⟩
 obtain⟨z,hz⟩:∃z:Int,z=(k.kind:Int):=⟨_,rfl⟩
 obtain⟨fl,hfl⟩:∃fl,fl=k.file:=⟨_,rfl⟩
 obtain⟨nm,hnm⟩:∃nm,nm=k.name:=⟨_,rfl⟩
 have HKC:=hid (show gC k = [.int .i64 z,.string fl,.string nm] by rw[hz,hfl,hnm];rfl);rw[<-hp] at sb ⊢;have c4:w.cell? ⟨bs,4,none⟩=some bg:=aA (i:=4) h.s;have g4:w.frozen? ⟨bs,4,none⟩=false:=aE h.s;have d0:w.cell? ⟨p,0,none⟩=some (.pointer (some ⟨bs,1,none⟩)):=sb.cell (i:=0) rfl;have d1:w.cell? ⟨p,1,none⟩=some (.int .i64 z):=by rw[hz];exact sb.cell (i:=1) rfl
 have d2:w.cell? ⟨p,2,none⟩=some (.string fl):=by rw[hfl];exact sb.cell (i:=2) rfl
 have d3:w.cell? ⟨p,3,none⟩=some (.string nm):=by rw[hnm];exact sb.cell (i:=3) rfl
 have d12:w.cell? ⟨p,12,none⟩=some (.func (.func wf) #[ptr bs] #[]):=sb.cell (i:=12) (by simp[aX,hru]);have hbl2:bs<w.heap.size:=aB h.s;have hpl:p<w.heap.size:=aB sb;obtain⟨ba,bc,hbg⟩:∃a c,bg = .slice a st.began.length c:=by
  obtain⟨_,⟨h1,h0⟩|⟨g,c,_,h1,_⟩⟩:=h.bg.1
  . exact⟨none,0,by rw[h1,h0]⟩
  . exact⟨_,_,h1⟩
 subst hbg;have hbgT:∀b,(Value.slice ba st.began.length bc).ownBlock=some b->∃cur,w.heap[b]? = some (.cells cur 99):=fun b hb=>by
  obtain⟨_,⟨e1,_⟩|⟨g,cap,cur,e1,_,e3,_⟩⟩:=h.bg.1
  . rw[e1] at hb;simp[Value.ownBlock] at hb
  . rw[e1] at hb;simp[Value.ownBlock] at hb;subst hb;exact⟨cur,e3⟩
 have hnb:(Value.slice ba st.began.length bc).ownBlock≠some bs:=fun e=>by
  obtain⟨cur,hc⟩:=hbgT bs e;rw[h.s] at hc;injection hc with hc;injection hc with _ hc;exact absurd hc (by decide)
 have hnp:(Value.slice ba st.began.length bc).ownBlock≠some p:=fun e=>by
  obtain⟨cur,hc⟩:=hbgT p e;rw[sb] at hc;injection hc with hc;injection hc with _ hc;exact absurd hc (by decide)
 obtain⟨n,hn⟩:∃n,n=st.began.length:=⟨_,rfl⟩
 obtain⟨xs,hxs⟩:∃xs,xs=st.began.flatMap gC:=⟨_,rfl⟩
 have hown:w.ownsRow 0 99 3 (.slice ba n bc) n xs:=by rw[hn,hxs];exact h.bg.1
 rw[<-hn] at hnb hnp c4;have hn2:n<1099511627776:=by rw[hn];exact hbl
 have HBN:Hid (∀(w5:World) (g' c':Nat),w5.ownsRow 0 99 3 (.slice (some ⟨g',0,none⟩) (n+1) c') (n+1) (xs ++ [.int .i64 z,.string fl,.string nm])->((Value.slice ba n bc).ownBlock=some g'\/w.heap.size<=g')->(∀b,b<w.heap.size->(Value.slice ba n bc).ownBlock≠some b->w5.heap[b]? = w.heap[b]?)->w.heap.size<=w5.heap.size->(w5.os=w.os/\w5.tape=w.tape/\w5.output=w.output)->
  ∃L6,L6.bk k=p/\cV {st with began:=st.began ++ [k]} L6 none bs fm q sm (.slice (some ⟨g',0,none⟩) (n+1) c') kv arr (w5.setCell ⟨bs,4,none⟩ (.slice (some ⟨g',0,none⟩) (n+1) c'))/\Next st {st with began:=st.began ++ [k]} L L6 w (w5.setCell ⟨bs,4,none⟩ (.slice (some ⟨g',0,none⟩) (n+1) c'))):=hid fun w5 g' c' h1 h2 h3 h4 h5=>by
  obtain⟨a,b⟩:=h.began (w5:=w5) k (bg':=.slice (some ⟨g',0,none⟩) (n+1) c') (by rw[<-hn,<-hxs,HKC.out];exact h1) (fun g hg=>by
   simp[Value.ownBlock] at hg;subst hg;rw[<-hn];exact h2) (by rw[<-hn];exact h3) h4 h5
  exact⟨_,by rw[hp];rfl,a,b⟩
 have HXC:Hid (∀(L6:aM) (w6:World) (q sm bg kv:Value) (arr:List K),L6.bk k=p->cV {st with began:=st.began ++ [k]} L6 none bs fm q sm bg kv arr w6->w6.cell? ⟨p,0,none⟩=some (.pointer (some ⟨bs,1,none⟩))/\w6.cell? ⟨p,1,none⟩=some (.int .i64 z)/\w6.cell? ⟨p,2,none⟩=some (.string fl)/\w6.cell? ⟨p,3,none⟩=some (.string nm)/\w6.cell? ⟨p,12,none⟩=some (.func (.func wf) #[ptr bs] #[])):=hid fun L6 w6 q sm bg kv arr hb6 hE6=>by
  obtain⟨x6,vs6,sb6,_⟩:=(hE6.cell k m hsl).ex;rw[hb6] at sb6;exact⟨sb6.cell (i:=0) rfl,by rw[hz];exact sb6.cell (i:=1) rfl,by rw[hfl];exact sb6.cell (i:=2) rfl,by rw[hnm];exact sb6.cell (i:=3) rfl,sb6.cell (i:=12) (by simp[aX,hru])⟩
 have HSL:=hid hsl;have HXX:=hid HX0;have HFM:=hid hFM;clear hFM;have HWF:=hid hwf;have HH:=hid h;have HOWN:=hid hown;clear h hval0 hTB hru sb hsl hbgT HX0 hwf hn hxs hp hz hfl hnm hown hbl;have hA:=aI w (.cells #[.int .i64 z,.string fl,.string nm] 99);obtain⟨i0,hi0,hz0,hz1,hz2⟩:=info_parts mX;have hnews:∀(j:Nat) u,([.int .i64 z,.string fl,.string nm]:List Value)[j]? = some u->((w.alloc (.cells #[.int .i64 z,.string fl,.string nm] 99)).drew).cell? ((⟨w.heap.size,0,none⟩:Addr).add j)=some u:=World.news_of_block (w:=(w.alloc (.cells #[.int .i64 z,.string fl,.string nm] 99)).drew) (cs:=#[.int .i64 z,.string fl,.string nm]) (heap_alloc_new w _);have h1c:∀u∈([.int .i64 z,.string fl,.string nm]:List Value),u.oneCell'=true:=by simp[Value.oneCell']
 have hsc2:∀o,(w.alloc o).drew.cell? ⟨bs,4,none⟩=some (.slice ba n bc):=fun o=>aK (w':=w.alloc o) (aG w o) c4;have hsf2:∀o,(w.alloc o).drew.frozen? ⟨bs,4,none⟩=false:=fun o=>((aG w o).frozen (p:=⟨bs,4,none⟩) hbl2).trans g4;have hsc3:∀o,(w.alloc o).drew.cell? ⟨p,0,none⟩=some (.pointer (some ⟨bs,1,none⟩)):=fun o=>aK (w':=w.alloc o) (aG w o) d0;have hsc4:∀o,(w.alloc o).cell? ⟨p,0,none⟩=some (.pointer (some ⟨bs,1,none⟩)):=fun o=>aK (w':=w.alloc o) (aG w o) d0;have hsc5:∀o,(w.alloc o).cell? ⟨bs,4,none⟩=some (.slice ba n bc):=fun o=>aK (w':=w.alloc o) (aG w o) c4;have hownA:=bJ (w':=(w.alloc (.cells #[.int .i64 z,.string fl,.string nm] 99)).drew) HOWN.out fun g hg=>Below.heap_alloc _ _ _ (HOWN.out.lt g hg).2;clear hA;go_enter Tryz.func227,Tryz.ntmps227;go_wp2_with fail
 apply lT (F:=fun (g' c':Nat) (w5:World)=>BG w w5 (.slice ba n bc) n g' c' (xs ++ [.int .i64 z,.string fl,.string nm]));case main=>
  intro KEY;go_region_law (refine wp_append_lies _ _ _ 59 rfl 0 99 i0 _ 3 40 Tryz.underlying59 hi0 hz0 hz1 hz2 (by decide) (by decide) (.slice ba n bc) n xs (by rfl) hownA ⟨w.heap.size,0,none⟩ 1 1 [.int .i64 z,.string fl,.string nm] (by rfl) (by rfl) hnews h1c (by omega) (by unfold maxLen;omega) (by omega) (by first|(simp;done)|(simp;omega)) (w.heap.size+1) (by simp) ?_;intro g' c' w5 hown' hgrow hat hlt;have hc5:=(hgrow.cell_far ⟨bs,4,none⟩ (by simp;omega) (fun e=>hnb e.symm)).trans (hsc2 _);have hf5:=(hgrow.frozen_far ⟨bs,4,none⟩ (by simp;omega) (fun e=>hnb e.symm)).trans (hsf2 _);have hp5:=(hgrow.cell_far ⟨p,0,none⟩ (by simp;omega) (fun e=>hnp e.symm)).trans (hsc3 _))
  all_goals
   have HF5:=A9 hown' hgrow hat;exact KEY g' c' w5 HF5
 case key=>
  intro g' c' w5 hf5;obtain⟨L6,hb6,hE6,hN6⟩:=HBN.out w5 g' c' hf5.own hf5.loc hf5.far hf5.size hf5.env;have HB6:=hid hb6;have HE6:=hid hE6;have HN6:=hid hN6;clear hb6 hE6 hN6 hf5 hownA hnb hnp hn2;generalize w5.setCell ⟨bs,4,none⟩ (.slice (some ⟨g',0,none⟩) (n+1) c')=w6 at HE6 HN6 ⊢;obtain⟨e0,e1,e2,e3,e12⟩:=HXC.out L6 w6 _ _ _ _ _ HB6.out HE6.out;clear hsc2 hsf2 hsc3 hsc4 hsc5 hnews h1c hi0 hz0 hz1 hz2 c4 g4 d0 d1 d2 d3 d12;go_wp2_with fail
  refine (k9 bs w6).mono ?_;rintro e w7⟨rfl,rfl⟩;have HL7:=hid (aI w6 (.cells #[.pointer (some ⟨bs,1,none⟩),.slice none 0 0] 109));have HB7:=hid (aG w6 (.cells #[.pointer (some ⟨bs,1,none⟩),.slice none 0 0] 109));generalize w6.alloc (.cells #[.pointer (some ⟨bs,1,none⟩),.slice none 0 0] 109)=w7 at HL7 HB7 ⊢;have HLO:=hid (fun (b:Nat) (hb:L6.own b)=>HE6.out.olt b hb);have HX:=hid (fun (W:World) (hb:Below w7.heap.size w7 W)=>HXX.out w7.heap.size L6 W w6.heap.size ⟨_,_,_,_,_,(HE6.out.below HB7.out).below hb⟩ (FM.next (F:=st.files) HFM.out ((HN6.out.below HB7.out).below hb)) ⟨⟨_,below_heap hb (aB HL7.out) HL7.out,World.ownsRow_nil _ _ _ _,fun g hg=>by simp[Value.ownBlock] at hg⟩,fun e=>Nat.lt_irrefl _ (HLO.out _ e),hb.size,fun l hl=>by simp at hl,Nat.zero_le _⟩ (Nat.le_trans HFM.out.low.size HN6.out.fr.size) (Nat.le_trans HFM.out.low.size (Nat.le_trans HN6.out.fr.size HB7.out.size)) fun b hb=>Nat.lt_of_lt_of_le (HLO.out b hb) HB7.out.size);have HN7:=hid (fun (W:World) (hb:Below w7.heap.size w7 W)=>(HN6.out.below HB7.out).below hb);have y0:=aK HB7.out e0;have y1:=aK HB7.out e1;have y2:=aK HB7.out e2;have y3:=aK HB7.out e3;have y12:=aK HB7.out e12;have HZ6:=hid HN6.out.fr.size;have HZ7:=hid (Nat.le_trans HN6.out.fr.size HB7.out.size);clear e0 e1 e2 e3 e12;generalize w6.heap.size=lb at HL7 HLO HX HZ6 ⊢;have HX2:Hid (∀(W:World),Below w7.heap.size w7 W->Calls Tryz.prog wf #[ptr bs,ptr lb,.agg #[.int .i64 z,.string fl,.string nm]] W fun e w'=>∃x la ln lc,e = .returned (.string x)/\w'.cell? ⟨lb,1,none⟩=some (.slice la ln lc)/\Hid (∃L8,Next st s1 L L8 w w'/\bN s1 L8 none bs fm w'/\bO L8.own w' k.kind (some v) [.string x]/\L8.bk k=p)):=hid fun W hb=>by
   have hka:cM k = .agg #[.int .i64 z,.string fl,.string nm]:=by rw[cM,HKC.out]
   have hx:=HX.out W hb;rw[hka] at hx;refine hx.mono ?_;rintro e w'⟨L8,hN,⟨vs,rfl,hv⟩,hK,hE⟩;have hsh:=dN hv;obtain⟨x,rfl⟩:∃x,vs = [.string x]:=by simpa[bO,h2,h3,h4] using hsh
   obtain⟨lv,hlb,hlo,_⟩:=hK.blk;obtain⟨la,ln,lc,rfl⟩:∃a n c,lv = .slice a n c:=by
    obtain⟨_,⟨h1,_⟩|⟨g,c,_,h1,_⟩⟩:=hlo
    . exact⟨none,0,0,h1⟩
    . exact⟨_,_,_,h1⟩
   refine⟨x,la,ln,lc,by simp[gU,h2,h3,h4],aA (i:=1) hlb,hid ⟨L8,hN.next (HN7.out W hb) HZ7.out HZ6.out,hE,hv,?_⟩⟩;exact ((hN.bk k (by show st.sl k≠none;rw[HSL.out];simp)).2).trans HB6.out
  have hDR:=hid (aJ w7);have hDR2:=hid (aF (aJ w7) (aJ w7.drew));have hDR3:=hid (aF (aF (aJ w7) (aJ w7.drew)) (aJ w7.drew.drew));clear HX HN7 HXC HBN HXX;go_wp2_with fail
  apply Cv (F:=fun (x:ByteArray) (la:Option Addr) (ln lc:Nat) (w8:World)=>w8.cell? ⟨lb,1,none⟩=some (.slice la ln lc)/\Hid (∃L8,Next st s1 L L8 w w8/\bN s1 L8 none bs fm w8/\bO L8.own w8 k.kind (some v) [.string x]/\L8.bk k=p));case main=>
   intro KEY;go_region_with (refine (HX2.out _ (by first|exact Below.refl _ _|exact aJ _|exact hDR2.out|exact hDR3.out)).mono ?_;rintro e w8⟨x,la,ln,lc,rfl,hz1,hz2⟩;have hz3:=hid (And.intro hz1 hz2);clear hz1 hz2)
   all_goals
    exact KEY _ _ _ _ _ hz3.out
  case key=>
   rintro x la ln lc w8 hwk;obtain⟨z1,hw2⟩:=hwk;have HAN:Hid (Calls Tryz.prog 228 #[ptr p,.string x,.slice la ln lc] w8 fun e w9=>e = .returned (.tuple #[])/\Hid (dL st L bs fm (.ok ()) st2 w (.returned (.tuple #[])) w9)):=hid (by
    obtain⟨L8,hN8,hE8,hv8,hb8⟩:=hw2.out;obtain⟨m8,hm8,hl8,hk8⟩:=sW ha;rw[<-hb8];refine (DJ hE8 hm8 h2 h3 h4 hl8 hk8 v x la ln lc hv8).mono ?_;rintro e w9⟨rfl,st9,L9,ha9,hE9,hN9⟩;rw[ha] at ha9;cases ha9;exact⟨rfl,hid ⟨L9,hN8.trans hN9,rfl,hE9⟩⟩)
   clear hw2 y0 y1 y2 y3 y12;go_wp2_with fail
   refine HAN.out.mono ?_;rintro e w9⟨rfl,hf⟩;clear HAN;go_wp2;go_end0
   exact hf.out
theorem EO{W0:World}{st s1:St V}{L:aM}{bs:Nat}{fm:Value}{w:World}{k:K}(h2:k.kind≠2)(h3:k.kind≠3)(h4:k.kind≠4)(h:bN st L none bs fm w)(hFM:FM W0 st.files L fm w)(hk:st.sl k≠none)(hbl:st.began.length<cD){c:K}
 (HX0:∀(B:Nat) (L6:aM) (W:World) (lb:Nat),bN {st with began:=st.began ++ [k]} L6 none bs fm W->FM W0 st.files L6 fm W->sB {st with began:=st.began ++ [k]} L6 bs lb B [] W->W0.heap.size<=lb->W0.heap.size<=B->(∀b,L6.own b->b<B)->Calls Tryz.prog (cF k.kind) #[ptr bs,ptr lb,cM k] W (bM B {st with began:=st.began ++ [k]} L6 bs lb fm k.kind (.cyc c) s1 W)) :
 Calls Tryz.prog 227 #[ptr (L.bk k)] w (dL st L bs fm (.cyc c) s1 w):=by
 obtain⟨m,hsl⟩:=Option.ne_none_iff_exists'.1 hk;obtain⟨q,sm,bg,kv,arr,h⟩:=h;obtain⟨x0,vs,sb,hval0⟩:=(h.cell k m hsl).ex;have hTB:TB k=175:=by simp[TB,h2,h3,h4]
 obtain⟨wf,hwf⟩:∃wf,wf=cF k.kind:=⟨_,rfl⟩
 rw[<-hwf] at HX0;have hru:cB bs k.kind = [.func (.func wf) #[ptr bs] #[],.func (.func 89) #[] #[],.string (if k.kind=7 then dA else bA)]:=by simp[cB,h2,h3,h4,hwf]
 rw[show ∀p xs,SB w p (TB k) xs=SB w p 175 xs from fun _ _=>by rw[hTB]] at sb;have hcw:∀(args:Array Value) (w:World),(callFunc wf args).run Tryz.prog w = .ok (.enter wf args) w:=by
  intro args w;subst hwf;unfold cF;repeat' split
  all_goals kernel_rfl
 obtain⟨p,hp⟩:∃p,p=L.bk k:=⟨_,rfl⟩
 obtain⟨z,hz⟩:∃z:Int,z=(k.kind:Int):=⟨_,rfl⟩
 obtain⟨fl,hfl⟩:∃fl,fl=k.file:=⟨_,rfl⟩
 obtain⟨nm,hnm⟩:∃nm,nm=k.name:=⟨_,rfl⟩
 have HKC:=hid (show gC k = [.int .i64 z,.string fl,.string nm] by rw[hz,hfl,hnm];rfl);rw[<-hp] at sb ⊢;have c4:w.cell? ⟨bs,4,none⟩=some bg:=aA (i:=4) h.s;have g4:w.frozen? ⟨bs,4,none⟩=false:=aE h.s;have d0:w.cell? ⟨p,0,none⟩=some (.pointer (some ⟨bs,1,none⟩)):=sb.cell (i:=0) rfl;have d1:w.cell? ⟨p,1,none⟩=some (.int .i64 z):=by rw[hz];exact sb.cell (i:=1) rfl
 have d2:w.cell? ⟨p,2,none⟩=some (.string fl):=by rw[hfl];exact sb.cell (i:=2) rfl
 have d3:w.cell? ⟨p,3,none⟩=some (.string nm):=by rw[hnm];exact sb.cell (i:=3) rfl
 have d12:w.cell? ⟨p,12,none⟩=some (.func (.func wf) #[ptr bs] #[]):=sb.cell (i:=12) (by simp[aX,hru]);have hbl2:bs<w.heap.size:=aB h.s;have hpl:p<w.heap.size:=aB sb;obtain⟨ba,bc,hbg⟩:∃a c,bg = .slice a st.began.length c:=by
  obtain⟨_,⟨h1,h0⟩|⟨g,c,_,h1,_⟩⟩:=h.bg.1
  . exact⟨none,0,by rw[h1,h0]⟩
  . exact⟨_,_,h1⟩
 subst hbg;have hbgT:∀b,(Value.slice ba st.began.length bc).ownBlock=some b->∃cur,w.heap[b]? = some (.cells cur 99):=fun b hb=>by
  obtain⟨_,⟨e1,_⟩|⟨g,cap,cur,e1,_,e3,_⟩⟩:=h.bg.1
  . rw[e1] at hb;simp[Value.ownBlock] at hb
  . rw[e1] at hb;simp[Value.ownBlock] at hb;subst hb;exact⟨cur,e3⟩
 have hnb:(Value.slice ba st.began.length bc).ownBlock≠some bs:=fun e=>by
  obtain⟨cur,hc⟩:=hbgT bs e;rw[h.s] at hc;injection hc with hc;injection hc with _ hc;exact absurd hc (by decide)
 have hnp:(Value.slice ba st.began.length bc).ownBlock≠some p:=fun e=>by
  obtain⟨cur,hc⟩:=hbgT p e;rw[sb] at hc;injection hc with hc;injection hc with _ hc;exact absurd hc (by decide)
 obtain⟨n,hn⟩:∃n,n=st.began.length:=⟨_,rfl⟩
 obtain⟨xs,hxs⟩:∃xs,xs=st.began.flatMap gC:=⟨_,rfl⟩
 have hown:w.ownsRow 0 99 3 (.slice ba n bc) n xs:=by rw[hn,hxs];exact h.bg.1
 rw[<-hn] at hnb hnp c4;have hn2:n<1099511627776:=by rw[hn];exact hbl
 have HBN:Hid (∀(w5:World) (g' c':Nat),w5.ownsRow 0 99 3 (.slice (some ⟨g',0,none⟩) (n+1) c') (n+1) (xs ++ [.int .i64 z,.string fl,.string nm])->((Value.slice ba n bc).ownBlock=some g'\/w.heap.size<=g')->(∀b,b<w.heap.size->(Value.slice ba n bc).ownBlock≠some b->w5.heap[b]? = w.heap[b]?)->w.heap.size<=w5.heap.size->(w5.os=w.os/\w5.tape=w.tape/\w5.output=w.output)->
  ∃L6,L6.bk k=p/\cV {st with began:=st.began ++ [k]} L6 none bs fm q sm (.slice (some ⟨g',0,none⟩) (n+1) c') kv arr (w5.setCell ⟨bs,4,none⟩ (.slice (some ⟨g',0,none⟩) (n+1) c'))/\Next st {st with began:=st.began ++ [k]} L L6 w (w5.setCell ⟨bs,4,none⟩ (.slice (some ⟨g',0,none⟩) (n+1) c'))):=hid fun w5 g' c' h1 h2 h3 h4 h5=>by
  obtain⟨a,b⟩:=h.began (w5:=w5) k (bg':=.slice (some ⟨g',0,none⟩) (n+1) c') (by rw[<-hn,<-hxs,HKC.out];exact h1) (fun g hg=>by
   simp[Value.ownBlock] at hg;subst hg;rw[<-hn];exact h2) (by rw[<-hn];exact h3) h4 h5
  exact⟨_,by rw[hp];rfl,a,b⟩
 have HXC:Hid (∀(L6:aM) (w6:World) (q sm bg kv:Value) (arr:List K),L6.bk k=p->cV {st with began:=st.began ++ [k]} L6 none bs fm q sm bg kv arr w6->w6.cell? ⟨p,0,none⟩=some (.pointer (some ⟨bs,1,none⟩))/\w6.cell? ⟨p,1,none⟩=some (.int .i64 z)/\w6.cell? ⟨p,2,none⟩=some (.string fl)/\w6.cell? ⟨p,3,none⟩=some (.string nm)/\w6.cell? ⟨p,12,none⟩=some (.func (.func wf) #[ptr bs] #[])):=hid fun L6 w6 q sm bg kv arr hb6 hE6=>by
  obtain⟨x6,vs6,sb6,_⟩:=(hE6.cell k m hsl).ex;rw[hb6] at sb6;exact⟨sb6.cell (i:=0) rfl,by rw[hz];exact sb6.cell (i:=1) rfl,by rw[hfl];exact sb6.cell (i:=2) rfl,by rw[hnm];exact sb6.cell (i:=3) rfl,sb6.cell (i:=12) (by simp[aX,hru])⟩
 have HSL:=hid hsl;have HXX:=hid HX0;have HFM:=hid hFM;clear hFM;have HWF:=hid hwf;have HH:=hid h;have HOWN:=hid hown;clear h hval0 hTB hru sb hsl hbgT HX0 hwf hn hxs hp hz hfl hnm hown hbl;have hA:=aI w (.cells #[.int .i64 z,.string fl,.string nm] 99);obtain⟨i0,hi0,hz0,hz1,hz2⟩:=info_parts mX;have hnews:∀(j:Nat) u,([.int .i64 z,.string fl,.string nm]:List Value)[j]? = some u->((w.alloc (.cells #[.int .i64 z,.string fl,.string nm] 99)).drew).cell? ((⟨w.heap.size,0,none⟩:Addr).add j)=some u:=World.news_of_block (w:=(w.alloc (.cells #[.int .i64 z,.string fl,.string nm] 99)).drew) (cs:=#[.int .i64 z,.string fl,.string nm]) (heap_alloc_new w _);have h1c:∀u∈([.int .i64 z,.string fl,.string nm]:List Value),u.oneCell'=true:=by simp[Value.oneCell']
 have hsc2:∀o,(w.alloc o).drew.cell? ⟨bs,4,none⟩=some (.slice ba n bc):=fun o=>aK (w':=w.alloc o) (aG w o) c4;have hsf2:∀o,(w.alloc o).drew.frozen? ⟨bs,4,none⟩=false:=fun o=>((aG w o).frozen (p:=⟨bs,4,none⟩) hbl2).trans g4;have hsc3:∀o,(w.alloc o).drew.cell? ⟨p,0,none⟩=some (.pointer (some ⟨bs,1,none⟩)):=fun o=>aK (w':=w.alloc o) (aG w o) d0;have hsc4:∀o,(w.alloc o).cell? ⟨p,0,none⟩=some (.pointer (some ⟨bs,1,none⟩)):=fun o=>aK (w':=w.alloc o) (aG w o) d0;have hsc5:∀o,(w.alloc o).cell? ⟨bs,4,none⟩=some (.slice ba n bc):=fun o=>aK (w':=w.alloc o) (aG w o) c4;have hownA:=bJ (w':=(w.alloc (.cells #[.int .i64 z,.string fl,.string nm] 99)).drew) HOWN.out fun g hg=>Below.heap_alloc _ _ _ (HOWN.out.lt g hg).2;clear hA;go_enter Tryz.func227,Tryz.ntmps227;go_wp2_with fail
 apply lT (F:=fun (g' c':Nat) (w5:World)=>BG w w5 (.slice ba n bc) n g' c' (xs ++ [.int .i64 z,.string fl,.string nm]));case main=>
  intro KEY;go_region_law (refine wp_append_lies _ _ _ 59 rfl 0 99 i0 _ 3 40 Tryz.underlying59 hi0 hz0 hz1 hz2 (by decide) (by decide) (.slice ba n bc) n xs (by rfl) hownA ⟨w.heap.size,0,none⟩ 1 1 [.int .i64 z,.string fl,.string nm] (by rfl) (by rfl) hnews h1c (by omega) (by unfold maxLen;omega) (by omega) (by first|(simp;done)|(simp;omega)) (w.heap.size+1) (by simp) ?_;intro g' c' w5 hown' hgrow hat hlt;have hc5:=(hgrow.cell_far ⟨bs,4,none⟩ (by simp;omega) (fun e=>hnb e.symm)).trans (hsc2 _);have hf5:=(hgrow.frozen_far ⟨bs,4,none⟩ (by simp;omega) (fun e=>hnb e.symm)).trans (hsf2 _);have hp5:=(hgrow.cell_far ⟨p,0,none⟩ (by simp;omega) (fun e=>hnp e.symm)).trans (hsc3 _))
  all_goals
   have HF5:=A9 hown' hgrow hat;exact KEY g' c' w5 HF5
 case key=>
  intro g' c' w5 hf5;obtain⟨L6,hb6,hE6,hN6⟩:=HBN.out w5 g' c' hf5.own hf5.loc hf5.far hf5.size hf5.env;have HB6:=hid hb6;have HE6:=hid hE6;have HN6:=hid hN6;clear hb6 hE6 hN6 hf5 hownA hnb hnp hn2;generalize w5.setCell ⟨bs,4,none⟩ (.slice (some ⟨g',0,none⟩) (n+1) c')=w6 at HE6 HN6 ⊢;obtain⟨e0,e1,e2,e3,e12⟩:=HXC.out L6 w6 _ _ _ _ _ HB6.out HE6.out;clear hsc2 hsf2 hsc3 hsc4 hsc5 hnews h1c hi0 hz0 hz1 hz2 c4 g4 d0 d1 d2 d3 d12;go_wp2_with fail
  refine (k9 bs w6).mono ?_;rintro e w7⟨rfl,rfl⟩;have HL7:=hid (aI w6 (.cells #[.pointer (some ⟨bs,1,none⟩),.slice none 0 0] 109));have HB7:=hid (aG w6 (.cells #[.pointer (some ⟨bs,1,none⟩),.slice none 0 0] 109));generalize w6.alloc (.cells #[.pointer (some ⟨bs,1,none⟩),.slice none 0 0] 109)=w7 at HL7 HB7 ⊢;have HLO:=hid (fun (b:Nat) (hb:L6.own b)=>HE6.out.olt b hb);have HX:=hid (fun (W:World) (hb:Below w7.heap.size w7 W)=>HXX.out w7.heap.size L6 W w6.heap.size ⟨_,_,_,_,_,(HE6.out.below HB7.out).below hb⟩ (FM.next (F:=st.files) HFM.out ((HN6.out.below HB7.out).below hb)) ⟨⟨_,below_heap hb (aB HL7.out) HL7.out,World.ownsRow_nil _ _ _ _,fun g hg=>by simp[Value.ownBlock] at hg⟩,fun e=>Nat.lt_irrefl _ (HLO.out _ e),hb.size,fun l hl=>by simp at hl,Nat.zero_le _⟩ (Nat.le_trans HFM.out.low.size HN6.out.fr.size) (Nat.le_trans HFM.out.low.size (Nat.le_trans HN6.out.fr.size HB7.out.size)) fun b hb=>Nat.lt_of_lt_of_le (HLO.out b hb) HB7.out.size);have HN7:=hid (fun (W:World) (hb:Below w7.heap.size w7 W)=>(HN6.out.below HB7.out).below hb);have y0:=aK HB7.out e0;have y1:=aK HB7.out e1;have y2:=aK HB7.out e2;have y3:=aK HB7.out e3;have y12:=aK HB7.out e12;have HZ6:=hid HN6.out.fr.size;have HZ7:=hid (Nat.le_trans HN6.out.fr.size HB7.out.size);clear e0 e1 e2 e3 e12;generalize w6.heap.size=lb at HL7 HLO HX HZ6 ⊢;have HX2:Hid (∀(W:World),Below w7.heap.size w7 W->Calls Tryz.prog wf #[ptr bs,ptr lb,.agg #[.int .i64 z,.string fl,.string nm]] W fun e w'=>e = .panicked (oQ c)/\Hid (dL st L bs fm (.cyc c) s1 w (.panicked (oQ c)) w')):=hid fun W hb=>by
   have hka:cM k = .agg #[.int .i64 z,.string fl,.string nm]:=by rw[cM,HKC.out]
   have hx:=HX.out W hb;rw[hka] at hx;refine hx.mono ?_;rintro e w'⟨L8,hN,rfl,h7,hE⟩;exact⟨rfl,hid ⟨L8,hN.next (HN7.out W hb) HZ7.out HZ6.out,rfl,h7,hE⟩⟩
  have hDR:=hid (aJ w7);have hDR2:=hid (aF (aJ w7) (aJ w7.drew));have hDR3:=hid (aF (aF (aJ w7) (aJ w7.drew)) (aJ w7.drew.drew));clear HX HN7 HXC HBN HXX;go_wp2_with fail
  unfold oQ at HX2;go_region_dies
  all_goals
   first
    | skip
   refine (HX2.out _ (by first|exact Below.refl _ _|exact aJ _|exact hDR2.out|exact hDR3.out)).mono ?_;rintro e w8⟨rfl,hz⟩;exact⟨rfl,hz.out⟩
end Go.Proofs.YthibodlojlkppaaGreatDoor

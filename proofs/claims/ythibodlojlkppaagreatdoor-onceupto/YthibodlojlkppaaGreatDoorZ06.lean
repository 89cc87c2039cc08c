import Derived.Test.YthibodlojlkppaaGreatDoorZ05
set_option linter.all false
set_option maxRecDepth 100000
set_option maxHeartbeats 40000000
namespace Go.Proofs.YthibodlojlkppaaGreatDoor
open Go.RowKit
variable [DecidableEq K] [LawfulBEq Lk]
section
variable {W0:World} {E:eF V} {B bs lb:Nat} {fm:Value} {st0 st st':St V} {L0 L:aM} {w0 w:World} {lk lk':List Lk} {nc:Bool}
theorem GG(hE:dX W0 E bs fm)(hW:WS W0 B bs lb fm st0 L0 w0 st L lk w){f nm b:ByteArray}(hm:cE E nc ⟨5,f,nm⟩ lk st=some (.ok (.s b,lk'),st')) :
 Calls Tryz.prog 44 #[ptr bs,ptr lb,.string f,.string nm] w fun e w'=>e = .returned (.string b)/\∃L',mZ W0 B bs lb fm st0 L0 w0 st L w st' L' lk' w':=by
 have HG:=hid (fun (W:World) (hb:Below w.heap.size w W)=>GE hE (hW.below hb) (k:=⟨5,f,nm⟩) (show (5:Nat)≠2 by decide) (show (5:Nat)≠3 by decide) (show (5:Nat)≠4 by decide) hm (z:=5) (fl:=f) (nm:=nm) rfl (F:=74) (G:=89) (lo:=bA) rfl);clear hE hW hm;have hmf:∀(fn:Fn) (first cap:Array Value) (w:World),(Instr.makeFunc fn first cap).run Tryz.prog w = .ok (.func fn first cap) w:=fun _ _ _ _=>rfl;go_enter Tryz.func44,Tryz.ntmps44;go_wp2_with fail
 refine (fA 74 bs w).mono ?_;rintro e w1⟨rfl,hb⟩;have HB:=hid hb;clear hb;go_wp2_with fail
 refine (HG.out w1 HB.out).mono ?_;rintro e w2⟨rfl,hq⟩;have HQ:=hid hq;clear hq;go_wp2;go_ret;obtain⟨L',hg⟩:=HQ.out;exact⟨rfl,L',hg.lift HB.out⟩
theorem GH(hE:dX W0 E bs fm)(hW:WS W0 B bs lb fm st0 L0 w0 st L lk w){f nm b:ByteArray}(hm:cE E nc ⟨6,f,nm⟩ lk st=some (.ok (.s b,lk'),st')) :
 Calls Tryz.prog 45 #[ptr bs,ptr lb,.string f,.string nm] w fun e w'=>e = .returned (.string b)/\∃L',mZ W0 B bs lb fm st0 L0 w0 st L w st' L' lk' w':=by
 have HG:=hid (fun (W:World) (hb:Below w.heap.size w W)=>GE hE (hW.below hb) (k:=⟨6,f,nm⟩) (show (6:Nat)≠2 by decide) (show (6:Nat)≠3 by decide) (show (6:Nat)≠4 by decide) hm (z:=6) (fl:=f) (nm:=nm) rfl (F:=75) (G:=89) (lo:=bA) rfl);clear hE hW hm;have hmf:∀(fn:Fn) (first cap:Array Value) (w:World),(Instr.makeFunc fn first cap).run Tryz.prog w = .ok (.func fn first cap) w:=fun _ _ _ _=>rfl;go_enter Tryz.func45,Tryz.ntmps45;go_wp2_with fail
 refine (fA 75 bs w).mono ?_;rintro e w1⟨rfl,hb⟩;have HB:=hid hb;clear hb;go_wp2_with fail
 refine (HG.out w1 HB.out).mono ?_;rintro e w2⟨rfl,hq⟩;have HQ:=hid hq;clear hq;go_wp2;go_ret;obtain⟨L',hg⟩:=HQ.out;exact⟨rfl,L',hg.lift HB.out⟩
theorem JE(hE:dX W0 E bs fm)(hW:WS W0 B bs lb fm st0 L0 w0 st L lk w){f b:ByteArray}(hm:cE E nc ⟨8,f,bA⟩ lk st=some (.ok (.s b,lk'),st')) :
 Calls Tryz.prog 47 #[ptr bs,ptr lb,.string f] w fun e w'=>e = .returned (.string b)/\∃L',mZ W0 B bs lb fm st0 L0 w0 st L w st' L' lk' w':=by
 have HG:=hid (fun (W:World) (hb:Below w.heap.size w W)=>GE hE (hW.below hb) (k:=⟨8,f,bA⟩) (show (8:Nat)≠2 by decide) (show (8:Nat)≠3 by decide) (show (8:Nat)≠4 by decide) hm (z:=8) (fl:=f) (nm:=bA) rfl (F:=77) (G:=89) (lo:=bA) rfl);clear hE hW hm;have hmf:∀(fn:Fn) (first cap:Array Value) (w:World),(Instr.makeFunc fn first cap).run Tryz.prog w = .ok (.func fn first cap) w:=fun _ _ _ _=>rfl;go_enter Tryz.func47,Tryz.ntmps47;go_wp2_with fail
 refine (fA 77 bs w).mono ?_;rintro e w1⟨rfl,hb⟩;have HB:=hid hb;clear hb;go_wp2_with fail
 refine (HG.out w1 HB.out).mono ?_;rintro e w2⟨rfl,hq⟩;have HQ:=hid hq;clear hq;go_wp2;go_ret;obtain⟨L',hg⟩:=HQ.out;exact⟨rfl,L',hg.lift HB.out⟩
theorem Oe(hE:dX W0 E bs fm)(hW:WS W0 B bs lb fm st0 L0 w0 st L lk w){f:ByteArray}{l:List Tok}(hm:cE E nc ⟨2,f,bA⟩ lk st=some (.ok (.t l,lk'),st')) :
 Calls Tryz.prog 65 #[ptr lb,.agg #[.int .i64 2,.string f,.string ⟨#[]⟩],.agg #[.func (.func 63) #[.pointer (some ⟨bs,0,none⟩)] #[],.func (.func 64) #[] #[],.slice none 0 0]] w fun e w'=>∃ao c,e = .returned (.slice ao l.length c)/\∃L',mZ W0 B bs lb fm st0 L0 w0 st L w st' L' lk' w'/\Row L'.own w' 121 (.slice ao l.length c) l.length (aV l)/\∃s:ByteArray,s.size<=400/\l=aN s:=by
 refine (Ll hE.s (k:=⟨2,f,bA⟩) rfl hW.e hW.m hW.k hm (z:=2) (fl:=f) (nm:=bA) rfl (F:=63) (G:=64) rfl).mono ?_;intro e w' hp;obtain⟨L',hN,⟨vs,rfl,hv⟩,hS⟩:=Bb hW (jO hE.a.fil hm) hp;obtain⟨⟨_,hs⟩,v,rfl,hr⟩:=hv;obtain⟨ao,c,rfl,hc,hg⟩:=id hr;exact⟨ao,c,rfl,L',⟨hN,hS⟩,hr,hs⟩
theorem Of(hE:dX W0 E bs fm)(hW:WS W0 B bs lb fm st0 L0 w0 st L lk w){f:ByteArray}{l:List ByteArray}(hm:cE E nc ⟨4,f,bA⟩ lk st=some (.ok (.x l,lk'),st')) :
 Calls Tryz.prog 73 #[ptr lb,.agg #[.int .i64 4,.string f,.string ⟨#[]⟩],.agg #[.func (.func 71) #[.pointer (some ⟨bs,0,none⟩)] #[],.func (.func 72) #[] #[],.slice none 0 0]] w fun e w'=>∃ao c,e = .returned (.slice ao l.length c)/\∃L',mZ W0 B bs lb fm st0 L0 w0 st L w st' L' lk' w'/\Row L'.own w' 9 (.slice ao l.length c) l.length (l.map .string)/\∃s:ByteArray,s.size<=400/\l=iQ (bY (aN s)).1:=by
 refine (Lm hE.s (k:=⟨4,f,bA⟩) rfl hW.e hW.m hW.k hm (z:=4) (fl:=f) (nm:=bA) rfl (F:=71) (G:=72) rfl).mono ?_;intro e w' hp;obtain⟨L',hN,⟨vs,rfl,hv⟩,hS⟩:=Bb hW (jO hE.a.fil hm) hp;obtain⟨⟨_,hs⟩,v,rfl,hr⟩:=hv;obtain⟨ao,c,rfl,hc,hg⟩:=id hr;exact⟨ao,c,rfl,L',⟨hN,hS⟩,hr,hs⟩
def n5(L:aM)(w:World)(ao:Option Addr)(c:Nat)(its:List cL):Prop:=Row L.own w 137 (.slice ao its.length c) its.length ((its.map cI).flatMap aP)
theorem Og(hE:dX W0 E bs fm)(hW:WS W0 B bs lb fm st0 L0 w0 st L lk w){f:ByteArray}{its:List cL}{fl:Option Nat}(hm:cE E nc ⟨3,f,bA⟩ lk st=some (.ok (.r its fl,lk'),st')) :
 Calls Tryz.prog 69 #[ptr lb,.agg #[.int .i64 3,.string f,.string ⟨#[]⟩],.agg #[.func (.func 67) #[.pointer (some ⟨bs,0,none⟩)] #[],.func (.func 68) #[] #[],.slice none 0 0,.int .i64 0]] w fun e w'=>∃ao c,e = .returned (.agg #[.slice ao its.length c,cU fl])/\∃L',mZ W0 B bs lb fm st0 L0 w0 st L w st' L' lk' w'/\n5 L' w' ao c its/\∃s:ByteArray,s.size<=400/\(its,fl)=bY (aN s):=by
 refine (Ln hE.s (k:=⟨3,f,bA⟩) rfl hW.e hW.m hW.k hm (z:=3) (fl:=f) (nm:=bA) rfl (F:=67) (G:=68) rfl).mono ?_;intro e w' hp;obtain⟨L',hN,⟨vs,rfl,hv⟩,hS⟩:=Bb hW (jO hE.a.fil hm) hp;obtain⟨⟨_,hs⟩,v,rfl,hr⟩:=hv;obtain⟨ao,c,rfl,hc,hg⟩:=id hr;exact⟨ao,c,rfl,L',⟨hN,hS⟩,hr,hs⟩
theorem zQ(hE:dX W0 E bs fm)(hW:WS W0 B bs lb fm st0 L0 w0 st L lk w){f:ByteArray}{l:List Tok}(hm:cE E nc ⟨2,f,bA⟩ lk st=some (.ok (.t l,lk'),st')) :
 Calls Tryz.prog 39 #[ptr bs,ptr lb,.string f] w fun e w'=>∃ao c,e = .returned (.slice ao l.length c)/\∃L',mZ W0 B bs lb fm st0 L0 w0 st L w st' L' lk' w'/\Row L'.own w' 121 (.slice ao l.length c) l.length (aV l)/\∃s:ByteArray,s.size<=400/\l=aN s:=by
 have HB:=hid (aG w (.cells #[.func (.func 63) #[.pointer (some ⟨bs,0,none⟩)] #[],.func (.func 64) #[] #[],.slice none 0 0] 131));have HFF:=hid (Oe hE (hW.below HB.out) hm);have hR:=aI w (.cells #[.func (.func 63) #[.pointer (some ⟨bs,0,none⟩)] #[],.func (.func 64) #[] #[],.slice none 0 0] 131);have r0:=aA (i:=0) hR;have r1:=aA (i:=1) hR;have r2:=aA (i:=2) hR;clear hE hW hm hR;have hmf:∀(fn:Fn) (first cap:Array Value) (w:World),(Instr.makeFunc fn first cap).run Tryz.prog w = .ok (.func fn first cap) w:=fun _ _ _ _=>rfl;go_enter Tryz.func39,Tryz.ntmps39;go_wp2_with fail
 refine HFF.out.mono ?_;rintro e w1⟨ao,c,rfl,hq⟩;have HQ:=hid hq;clear hq;go_wp2;go_ret;obtain⟨L',hg,hr⟩:=HQ.out;exact⟨ao,c,rfl,L',hg.lift HB.out,hr⟩
theorem Bf(hE:dX W0 E bs fm)(hW:WS W0 B bs lb fm st0 L0 w0 st L lk w){f:ByteArray}{l:List ByteArray}(hm:cE E nc ⟨4,f,bA⟩ lk st=some (.ok (.x l,lk'),st')) :
 Calls Tryz.prog 43 #[ptr bs,ptr lb,.string f] w fun e w'=>∃ao c,e = .returned (.slice ao l.length c)/\∃L',mZ W0 B bs lb fm st0 L0 w0 st L w st' L' lk' w'/\Row L'.own w' 9 (.slice ao l.length c) l.length (l.map .string)/\∃s:ByteArray,s.size<=400/\l=iQ (bY (aN s)).1:=by
 have HB:=hid (aG w (.cells #[.func (.func 71) #[.pointer (some ⟨bs,0,none⟩)] #[],.func (.func 72) #[] #[],.slice none 0 0] 147));have HFF:=hid (Of hE (hW.below HB.out) hm);have hR:=aI w (.cells #[.func (.func 71) #[.pointer (some ⟨bs,0,none⟩)] #[],.func (.func 72) #[] #[],.slice none 0 0] 147);have r0:=aA (i:=0) hR;have r1:=aA (i:=1) hR;have r2:=aA (i:=2) hR;clear hE hW hm hR;have hmf:∀(fn:Fn) (first cap:Array Value) (w:World),(Instr.makeFunc fn first cap).run Tryz.prog w = .ok (.func fn first cap) w:=fun _ _ _ _=>rfl;go_enter Tryz.func43,Tryz.ntmps43;go_wp2_with fail
 refine HFF.out.mono ?_;rintro e w1⟨ao,c,rfl,hq⟩;have HQ:=hid hq;clear hq;go_wp2;go_ret;obtain⟨L',hg,hr⟩:=HQ.out;exact⟨ao,c,rfl,L',hg.lift HB.out,hr⟩
theorem Row.boxR{O:Nat->Prop}{w:World}{T:TypeId}{v:Value}{n:Nat}{xs:List Value}(h:Row O w T v n xs)(hT:T≠87){rb:Nat}{cs:Array Value}(hb:w.heap[rb]? = some (.cells cs 87))(i:Nat)(u:Value):Row O (w.setCell ⟨rb,i,none⟩ u) T v n xs:=
 h.keepT fun b cs' hbb=>(aD (fun e=>by
  rw[e,hb] at hbb;injection hbb with hbb;injection hbb with _ hbb;exact hT hbb.symm) _).trans hbb
theorem xG(hE:dX W0 E bs fm)(hW:WS W0 B bs lb fm st0 L0 w0 st L lk w)(h0:w0.heap.size<=w.heap.size)(h00:W0.heap.size<=w0.heap.size){f:ByteArray}{its:List cL}{fl:Option Nat}(hm:cE E nc ⟨3,f,bA⟩ lk st=some (.ok (.r its fl,lk'),st')) :
 Calls Tryz.prog 41 #[ptr bs,ptr lb,.string f] w fun e w'=>∃ao c,e = .returned (.agg #[.slice ao its.length c,cU fl])/\∃L',mZ W0 B bs lb fm st0 L0 w0 st L w st' L' lk' w'/\n5 L' w' ao c its/\∃s:ByteArray,s.size<=400/\(its,fl)=bY (aN s):=by
 have hfv:∃z:Int,cU fl = .int .i64 z:=by cases fl <;> exact⟨_,rfl⟩
 obtain⟨z,hz⟩:=hfv;have hmf:∀(fn:Fn) (first cap:Array Value) (w:World),(Instr.makeFunc fn first cap).run Tryz.prog w = .ok (.func fn first cap) w:=fun _ _ _ _=>rfl;have HE:=hid hE;have HWS:=hid hW;have HM:=hid hm;have H0:=hid (And.intro h0 h00);clear hE hW hm h0 h00;go_enter Tryz.func41,Tryz.ntmps41;go_wp2_with fail
 have hb0:=((Below.refl w.heap.size w).alloc (Nat.le_refl _) (.cells #[.slice none 0 0,.int .i64 0] 87)).alloc (by simp) (.cells #[.func (.func 67) #[.pointer (some ⟨bs,0,none⟩)] #[],.func (.func 68) #[] #[],.slice none 0 0,.int .i64 0] 142);have hT:=aC (.cells #[.func (.func 67) #[.pointer (some ⟨bs,0,none⟩)] #[],.func (.func 68) #[] #[],.slice none 0 0,.int .i64 0] 142) (aI w (.cells #[.slice none 0 0,.int .i64 0] 87));generalize (w.alloc (.cells #[.slice none 0 0,.int .i64 0] 87)).alloc (.cells #[.func (.func 67) #[.pointer (some ⟨bs,0,none⟩)] #[],.func (.func 68) #[] #[],.slice none 0 0,.int .i64 0] 142)=W at hb0 hT ⊢;have HMN:=hid (HWS.out.mine (Nat.le_refl w.heap.size));refine (Og HE.out (HWS.out.below hb0) HM.out).mono ?_;rintro e w1⟨ao,c,rfl,L',hg,hr,hs⟩;have hT1:=(hg.n.mine hT HMN.out (fun cs e=>by injection e with _ e;exact absurd e (by decide))).1;have HG:=hid hg;have HR:=hid hr;have HS:=hid hs;have HB:=hid hb0;have q0:w1.cell? ⟨w.heap.size,0,none⟩=some (.slice none 0 0):=aA (i:=0) hT1;have q1:w1.cell? ⟨w.heap.size,1,none⟩=some (.int .i64 0):=aA (i:=1) hT1;have f0:w1.frozen? ⟨w.heap.size,0,none⟩=false:=aE hT1;have f1:w1.frozen? ⟨w.heap.size,1,none⟩=false:=aE hT1;have hT2:=aH (i:=0) hT1 (.slice ao its.length c);have HR5:=hid (aH (i:=1) hT2 (.int .i64 z));have HF:=hid (show mZ W0 B bs lb fm st0 L0 w0 st L w st' L' lk' ((w1.setCell ⟨w.heap.size,0,none⟩ (.slice ao its.length c)).setCell ⟨w.heap.size,1,none⟩ (.int .i64 z)) from ⟨((hg.n.lift hb0).box (Nat.le_refl _) 0 _).box (Nat.le_refl _) 1 _,(hg.s.box hT1 H0.out.1 H0.out.2 0 _).box hT2 H0.out.1 H0.out.2 1 _⟩);have HTR:=hid (show n5 L' ((w1.setCell ⟨w.heap.size,0,none⟩ (.slice ao its.length c)).setCell ⟨w.heap.size,1,none⟩ (.int .i64 z)) ao c its from Row.boxR (Row.boxR hr (by decide) hT1 0 _) (by decide) hT2 1 _);clear hg hr hs hb0 hT hT1 hT2;rw[hz];go_wp2;have y0:=aA (i:=0) HR5.out;have y1:=aA (i:=1) HR5.out;refine bodyPost_ret (v:=.agg #[.slice ao its.length c,.int .i64 z]) (by simp[results,Tryz.results41,go_sem,y0,y1];try rfl) rfl ?_;exact⟨ao,c,by rw[hz],L',HF.out,HTR.out,HS.out⟩
theorem CA(hE:dX W0 E bs fm)(hW:WS W0 B bs lb fm st0 L0 w0 st L lk w){f nm b:ByteArray}(hm:cE E nc ⟨7,f,nm⟩ lk st=some (.ok (.s b,lk'),st')) :
 Calls Tryz.prog 46 #[ptr bs,ptr lb,.string f,.string nm] w fun e w'=>e = .returned (.string b)/\∃L',mZ W0 B bs lb fm st0 L0 w0 st L w st' L' lk' w':=by
 have HG:=hid (fun (W:World) (hb:Below w.heap.size w W)=>GE hE (hW.below hb) (k:=⟨7,f,nm⟩) (show (7:Nat)≠2 by decide) (show (7:Nat)≠3 by decide) (show (7:Nat)≠4 by decide) hm (z:=7) (fl:=f) (nm:=nm) rfl (F:=76) (G:=89) (lo:=dA) rfl);clear hE hW hm;have hmf:∀(fn:Fn) (first cap:Array Value) (w:World),(Instr.makeFunc fn first cap).run Tryz.prog w = .ok (.func fn first cap) w:=fun _ _ _ _=>rfl;go_enter Tryz.func46,Tryz.ntmps46;go_wp2_with fail
 refine (fA 76 bs w).mono ?_;rintro e w1⟨rfl,hb⟩;have HB:=hid hb;clear hb;have hR:=aI w1 (.cells #[.func (.func 76) #[.pointer (some ⟨bs,0,none⟩)] #[],.func (.func 89) #[] #[],.string dA] 114);have r0:=aA (i:=0) hR;have r1:=aA (i:=1) hR;have r2:=aA (i:=2) hR;have HB2:=hid (aF HB.out (aG w1 (.cells #[.func (.func 76) #[.pointer (some ⟨bs,0,none⟩)] #[],.func (.func 89) #[] #[],.string dA] 114)));clear hR;go_wp2_with fail
 refine (HG.out _ HB2.out).mono ?_;rintro e w2⟨rfl,hq⟩;have HQ:=hid hq;clear hq;go_wp2;go_ret;obtain⟨L',hg⟩:=HQ.out;exact⟨rfl,L',hg.lift HB2.out⟩
theorem JF(hE:dX W0 E bs fm)(hW:WS W0 B bs lb fm st0 L0 w0 st L lk w){f nm:ByteArray}{c:K}(hm:cE E nc ⟨7,f,nm⟩ lk st=some (.cyc c,st'))(kd:Nat) :
 Calls Tryz.prog 46 #[ptr bs,ptr lb,.string f,.string nm] w fun e w'=>e = .panicked (oQ c)/\bM B st0 L0 bs lb fm kd (.cyc c) st' w0 (.panicked (oQ c)) w':=by
 have HG:=hid (fun (W:World) (hb:Below w.heap.size w W)=>Od hE (hW.below hb) (k:=⟨7,f,nm⟩) (show (7:Nat)≠2 by decide) (show (7:Nat)≠3 by decide) (show (7:Nat)≠4 by decide) hm (z:=7) (fl:=f) (nm:=nm) rfl (F:=76) (G:=89) (lo:=dA) rfl kd);clear hE hW hm;have hmf:∀(fn:Fn) (first cap:Array Value) (w:World),(Instr.makeFunc fn first cap).run Tryz.prog w = .ok (.func fn first cap) w:=fun _ _ _ _=>rfl;go_enter Tryz.func46,Tryz.ntmps46;go_wp2_with fail
 refine (fA 76 bs w).mono ?_;rintro e w1⟨rfl,hb⟩;have HB:=hid hb;clear hb;have hR:=aI w1 (.cells #[.func (.func 76) #[.pointer (some ⟨bs,0,none⟩)] #[],.func (.func 89) #[] #[],.string dA] 114);have r0:=aA (i:=0) hR;have r1:=aA (i:=1) hR;have r2:=aA (i:=2) hR;have HB2:=hid (aF HB.out (aG w1 (.cells #[.func (.func 76) #[.pointer (some ⟨bs,0,none⟩)] #[],.func (.func 89) #[] #[],.string dA] 114)));clear hR;have HC:=hid (HG.out _ HB2.out);unfold oQ at HC;go_wp2_with fail
 refine HC.out.mono ?_;rintro e w2⟨rfl,hq⟩;go_wp2_with fail
 exact⟨rfl,rfl,hq⟩
end
theorem uI(f:ByteArray):MapKept.IsKey .string (.string f):=by simp[MapKept.IsKey]
theorem Lo(a b:ByteArray):(a==b)=decide (a=b):=by
 by_cases h:a=b
 . rw[decide_eq_true h];exact (MapKept.bytes_beq a b).2 h
 . rw[decide_eq_false h]
   cases hb:(a==b) with
   | false=>rfl
   | true=>exact absurd ((MapKept.bytes_beq a b).1 hb) h
theorem jP(f:ByteArray):∀(es:List MapEntry) (l:List (ByteArray×Value)) (i:Nat),es.map (fun e=>(e.key,e.val))=l.map (fun p=>(.string p.1,p.2))->f∉l.map (·.1)->Instr.findNow .string (.string f) es i=some none
 | [],_,_,_,_=>rfl
 | e::es,[],i,h,_=>by simp at h
 | e::es,p::l,i,h,hn=>by
  simp only[List.map_cons,List.cons.injEq,Prod.mk.injEq] at h;obtain⟨⟨h1,_⟩,h3⟩:=h;simp only[List.map_cons,List.mem_cons,not_or] at hn;have hb:(f==p.1)=false:=by rw[Lo];exact decide_eq_false hn.1
  simp only[Instr.findNow,h1,Instr.sameNow,hb];exact jP f es l (i+1) h3 hn.2
theorem nP(f:ByteArray)(v:Value):∀(es:List MapEntry) (l:List (ByteArray×Value)) (i:Nat),es.map (fun e=>(e.key,e.val))=l.map (fun p=>(.string p.1,p.2))->(l.map (·.1)).Nodup->(f,v)∈l->∃j,Instr.findNow .string (.string f) es i=some (some (i+j,v))/\es[j]?.map (fun e=>(e.key,e.val))=some (.string f,v)
 | [],l,_,h,_,hm=>by
  cases l with
  | nil=>simp at hm
  | cons p l=>simp at h
 | e::es,[],i,h,_,_=>by simp at h
 | e::es,p::l,i,h,hd,hm=>by
  simp only[List.map_cons,List.cons.injEq,Prod.mk.injEq] at h;obtain⟨⟨h1,h2⟩,h3⟩:=h;simp only[List.map_cons,List.nodup_cons] at hd;by_cases hf:f=p.1
  . have hv:v=p.2:=by
     rcases List.mem_cons.1 hm with e1|e1
     . rw[<-e1]
     . exact absurd (List.mem_map.2 ⟨_,e1,hf⟩) hd.1
    have hb:(f==p.1)=true:=by rw[Lo];exact decide_eq_true hf
    refine⟨0,?_,by simp[h1,h2,hf,hv]⟩;simp only[Instr.findNow,h1,Instr.sameNow,hb,h2,hv,Nat.add_zero]
  . have hm2:(f,v)∈l:=by
     rcases List.mem_cons.1 hm with e1|e1
     . exact absurd (by rw[<-e1]) hf
     . exact e1
    have hb:(f==p.1)=false:=by rw[Lo];exact decide_eq_false hf
    obtain⟨j,hj,hk⟩:=nP f v es l (i+1) h3 hd.2 hm2;refine⟨j+1,?_,by simpa using hk⟩;simp only[Instr.findNow,h1,Instr.sameNow,hb,hj];simp;omega
theorem uJ{src:ByteArray->Option Nat}{L:aM}{q:Value}{w:World}(h:MF src L q w)(f:ByteArray):(Instr.lookup 57 q (.string f) true).run Tryz.prog w = .ok (if src f=none then .tuple #[.pointer none,.bool false] else .tuple #[ptr (L.sb f),.bool true]) w:=by
 have hz:(zeroValue 163).run Tryz.prog w = .ok (.pointer none) w:=by kernel_rfl
 rcases h with ⟨h1,h2⟩|⟨b,es,n,h1,h2,h3,fs,h4,h5,h6⟩
 . subst h1
   have hf:Instr.findNow .string (.string f) ([]:List MapEntry) 0=some none:=rfl;rw[if_pos (h2 f)];simp[Instr.lookup,run_underlying Tryz.underlying57,MapKept.run_checkKey Tryz.underlying9 (uI f),MapKept.run_findKey Tryz.underlying9 hf,hz,Result.andThen]
 . subst h1
   have h4':es.toList.map (fun e=>(e.key,e.val))=(fs.map fun g=>(g,ptr (L.sb g))).map (fun p=>(.string p.1,p.2)):=by rw[h4];simp
   have hk:(fs.map fun g=>(g,ptr (L.sb g))).map (·.1)=fs:=by simp[Function.comp_def]
   by_cases hm:f∈fs
   . obtain⟨j,hj,_⟩:=nP f (ptr (L.sb f)) es.toList _ 0 h4' (by rw[hk];exact h5) (List.mem_map.2 ⟨f,hm,rfl⟩)
     rw[if_neg ((h6 f).1 hm)];simp[Instr.lookup,run_underlying Tryz.underlying57,MapKept.run_getObj_map h3,MapKept.run_checkKey Tryz.underlying9 (uI f),MapKept.run_findKey Tryz.underlying9 hj,Result.andThen]
   . have hf:=jP f es.toList _ 0 h4' (by rw[hk];exact hm)
     have hn:src f=none:=Classical.byContradiction fun e=>hm ((h6 f).2 e);rw[if_pos hn];simp[Instr.lookup,run_underlying Tryz.underlying57,MapKept.run_getObj_map h3,MapKept.run_checkKey Tryz.underlying9 (uI f),MapKept.run_findKey Tryz.underlying9 hf,hz,Result.andThen]
theorem xH{w:World}{b n:Nat}{es:Array MapEntry}{fs:List ByteArray}{g:ByteArray->Value}(f:ByteArray)(v:Value)(h:w.heap[b]? = some (.map es n))(he:es.toList.map (fun e=>(e.key,e.val))=fs.map (fun f=>(.string f,g f)))(hk:f∉fs) :
 (Instr.mapUpdate 57 (.map (some b)) (.string f) v).run Tryz.prog w = .ok () (Ses.setO w b (.map (es.push {key:=.string f,val:=v,born:=n}) (n+1))):=by
 have he':es.toList.map (fun e=>(e.key,e.val))=(fs.map fun x=>(x,g x)).map (fun p=>(.string p.1,p.2)):=by rw[he];simp
 have hf:=jP f es.toList _ 0 he' (by simpa[Function.comp_def] using hk);simp[Instr.mapUpdate,run_underlying Tryz.underlying57,MapKept.run_getObj_map h,MapKept.run_checkKey Tryz.underlying9 (uI f),MapKept.run_findKey Tryz.underlying9 hf,MapKept.run_setObj_map _ h,Result.andThen,Ses.setO]
theorem Ep{W0:World}{F:ByteArray->Option ByteArray}{L:aM}{fm:Value}{w:World}(h:FM W0 F L fm w)(f:ByteArray):(Instr.lookup 56 fm (.string f) true).run Tryz.prog w = .ok (.tuple #[.agg #[.string ((F f).getD bA)],.bool (F f).isSome]) w:=by
 have hz:(zeroValue 102).run Tryz.prog w = .ok (.agg #[.string bA]) w:=by kernel_rfl
 rcases h.mp with ⟨h1,h2⟩|⟨b,es,n,h1,h2,h3,fs,h4,h5,h6⟩
 . subst h1
   have hf:Instr.findNow .string (.string f) ([]:List MapEntry) 0=some none:=rfl;simp[Instr.lookup,run_underlying Tryz.underlying56,MapKept.run_checkKey Tryz.underlying9 (uI f),MapKept.run_findKey Tryz.underlying9 hf,hz,Result.andThen,h2 f]
 . subst h1
   have h4':es.toList.map (fun e=>(e.key,e.val))=(fs.map fun p=>(p.1,Value.agg #[.string p.2])).map (fun p=>(.string p.1,p.2)):=by rw[h4];simp
   have hk:(fs.map fun p=>(p.1,Value.agg #[.string p.2])).map (·.1)=fs.map (·.1):=by simp[Function.comp_def]
   cases hF:F f with
   | some x=>
    obtain⟨j,hj,_⟩:=nP f (.agg #[.string x]) es.toList _ 0 h4' (by rw[hk];exact h5) (List.mem_map.2 ⟨(f,x),(h6 f x).2 hF,rfl⟩);simp[Instr.lookup,run_underlying Tryz.underlying56,MapKept.run_getObj_map h3,MapKept.run_checkKey Tryz.underlying9 (uI f),MapKept.run_findKey Tryz.underlying9 hj,Result.andThen]
   | none=>
    have hm:f∉fs.map (·.1):=fun e=>by
     obtain⟨⟨a,x⟩,e1,rfl⟩:=List.mem_map.1 e;have:=(h6 a x).1 e1
     simp only at hF;rw[hF] at this;cases this
    have hf:=jP f es.toList _ 0 h4' (by rw[hk];exact hm);simp[Instr.lookup,run_underlying Tryz.underlying56,MapKept.run_getObj_map h3,MapKept.run_checkKey Tryz.underlying9 (uI f),MapKept.run_findKey Tryz.underlying9 hf,hz,Result.andThen]
def MN(l:List (ByteArray×ByteArray×Int))(b:Nat)(w:World):Prop:=∃es n,w.heap[b]? = some (.map es n)/\es.toList.map (fun e=>(e.key,e.val))=l.map (fun p=>(.string p.1,.agg #[.string p.2.1,.int .i64 p.2.2]))/\(l.map (·.1)).Nodup
theorem sY{l:List (ByteArray×ByteArray×Int)}{b:Nat}{w:World}(h:MN l b w)(f:ByteArray)(t:ByteArray)(z:Int)(hm:(f,t,z)∈l\/(f∉l.map (·.1)/\t=bA/\z=0)):(Instr.lookup 195 (.map (some b)) (.string f) false).run Tryz.prog w = .ok (.agg #[.string t,.int .i64 z]) w:=by
 have hz:(zeroValue 199).run Tryz.prog w = .ok (.agg #[.string bA,.int .i64 0]) w:=by kernel_rfl
 obtain⟨es,n,h3,h4,h5⟩:=h;have h4':es.toList.map (fun e=>(e.key,e.val))=(l.map fun p=>(p.1,Value.agg #[.string p.2.1,.int .i64 p.2.2])).map (fun p=>(.string p.1,p.2)):=by rw[h4];simp
 have hk:(l.map fun p=>(p.1,Value.agg #[.string p.2.1,.int .i64 p.2.2])).map (·.1)=l.map (·.1):=by simp[Function.comp_def]
 rcases hm with hm|⟨hm,rfl,rfl⟩
 . obtain⟨j,hj,_⟩:=nP f (.agg #[.string t,.int .i64 z]) es.toList _ 0 h4' (by rw[hk];exact h5) (List.mem_map.2 ⟨(f,t,z),hm,rfl⟩)
   simp[Instr.lookup,run_underlying Tryz.underlying195,MapKept.run_getObj_map h3,MapKept.run_checkKey Tryz.underlying9 (uI f),MapKept.run_findKey Tryz.underlying9 hj,Result.andThen]
 . have hf:=jP f es.toList _ 0 h4' (by rw[hk];exact hm)
   simp[Instr.lookup,run_underlying Tryz.underlying195,MapKept.run_getObj_map h3,MapKept.run_checkKey Tryz.underlying9 (uI f),MapKept.run_findKey Tryz.underlying9 hf,hz,Result.andThen]
theorem GI{l:List (ByteArray×ByteArray×Int)}{b:Nat}{w:World}(h:MN l b w)(f t:ByteArray)(z:Int)(hf:f∉l.map (·.1)) :
 ∃es n,(Instr.mapUpdate 195 (.map (some b)) (.string f) (.agg #[.string t,.int .i64 z])).run Tryz.prog w = .ok () (Ses.setO w b (.map es n))/\MN (l ++ [(f,t,z)]) b (Ses.setO w b (.map es n)):=by
 obtain⟨es,n,h3,h4,h5⟩:=h;have h4':es.toList.map (fun e=>(e.key,e.val))=(l.map fun p=>(p.1,Value.agg #[.string p.2.1,.int .i64 p.2.2])).map (fun p=>(.string p.1,p.2)):=by rw[h4];simp
 have hn:=jP f es.toList _ 0 h4' (by simpa[Function.comp_def] using hf);refine⟨es.push {key:=.string f,val:=.agg #[.string t,.int .i64 z],born:=n},n+1,?_,_,_,Ses.setO_eq _ h3,?_,?_⟩
 . simp[Instr.mapUpdate,run_underlying Tryz.underlying195,MapKept.run_getObj_map h3,MapKept.run_checkKey Tryz.underlying9 (uI f),MapKept.run_findKey Tryz.underlying9 hn,MapKept.run_setObj_map _ h3,Result.andThen,Ses.setO]
 . simp[h4]
 . rw[List.map_append,List.nodup_append]
   exact⟨h5,by simp,fun x hx y hy=>by simp at hy;subst hy;intro e;exact hf (e ▸ hx)⟩
def aM.srcL(L:aM)(f:ByteArray)(p ms:Nat):aM:={L with sb:=fun g=>if g=f then p else L.sb g,own:=fun b=>L.own b\/b=p\/b=ms}
structure SN (w w':World) (bs p ms n:Nat) (es:Array MapEntry) (f fm:Value) (rv:Int) (sm bg kv:Value) (us:Int):Prop where
 s:w'.heap[bs]? = some (.cells #[fm,.int .i64 rv,.map (some ms),sm,bg,kv,.int .u64 us] 66)
 hp:w'.heap[p]? = some (.cells #[.int .i64 0] 162)
 m:w'.heap[ms]? = some (.map (es.push {key:=f,val:=.pointer (some ⟨p,0,none⟩),born:=n}) (n+1))
 lp:w.heap.size<=p
 fr:Ses.Fr [bs,ms] w w'
theorem oT{st:St V}{f:ByteArray}(h:st.src f=none):st.source f={st with src:=fun g=>if g=f then some 0 else st.src g}:=by simp[St.source,h]
theorem lV{st:St V}{f:ByteArray}(h:st.src f≠none):st.source f=st:=by
 obtain⟨m,hm⟩:=Option.ne_none_iff_exists'.1 h;simp[St.source,hm]
theorem SN.eng{st:St V}{L:aM}{bs:Nat}{fm q sm bg kv:Value}{arr:List K}{w w':World}(h:cV st L none bs fm q sm bg kv arr w){f:ByteArray}(hf:st.src f=none){p ms n:Nat}{es:Array MapEntry}
 (hF:SN w w' bs p ms n es (.string f) fm st.rev sm bg kv st.uses) {fs:List ByteArray} (hes:es.toList.map (fun e=>(e.key,e.val))=fs.map (fun g=>(.string g,ptr (L.sb g)))) (hnd:fs.Nodup) (hks:∀g,g∈fs↔st.src g≠none)
 (hms:w.heap.size<=ms\/L.own ms/\q = .map (some ms)/\w.heap[ms]? = some (.map es n)) :
 cV (st.source f) (L.srcL f p ms) none bs fm (.map (some ms)) sm bg kv arr w'/\Next st (st.source f) L (L.srcL f p ms) w w':=by
 rw[oT hf];have hbs:=aB h.s;have hpl:=hF.lp;have hfr:FR L.own w w':=⟨hF.fr.os,hF.fr.tape,hF.fr.output,hF.fr.size,fun b hb hn=>hF.fr.block b hb (by
  simp only[List.mem_cons,List.not_mem_nil,or_false,not_or];refine⟨fun e=>hn (e ▸ h.bo),fun e=>?_⟩;rcases hms with h1|h1
  . omega
  . exact hn (e ▸ h1.1))⟩
 have hcs:∀(b:Nat) (cs:Array Value) (T:TypeId),w.heap[b]? = some (.cells cs T)->T≠66->w'.heap[b]? = some (.cells cs T):=fun b cs T hb h1=>by
  rw[hF.fr.block b (aB hb)]
  . exact hb
  . simp only[List.mem_cons,List.not_mem_nil,or_false,not_or]
    refine⟨fun e=>?_,fun e=>?_⟩
    . rw[e,h.s] at hb;injection hb with hb;injection hb with _ hb;exact h1 hb.symm
    . rcases hms with h2|h2
      . have:=aB hb;omega
      . rw[e,h2.2.2] at hb;injection hb with hb;cases hb
 have hmp:∀(b:Nat) (es:Array MapEntry) (n:Nat),b≠ms->w.heap[b]? = some (.map es n)->w'.heap[b]? = some (.map es n):=fun b es n hne hb=>by
  rw[hF.fr.block b (aB hb)]
  . exact hb
  . simp only[List.mem_cons,List.not_mem_nil,or_false,not_or]
    refine⟨fun e=>?_,hne⟩;rw[e,h.s] at hb;injection hb with hb;cases hb
 have hsb:∀g,st.src g≠none->(L.srcL f p ms).sb g=L.sb g:=fun g hg=>by
  have:g≠f:=fun e=>hg (e ▸ hf)
  simp[aM.srcL,this]
 have hlt:∀b,(L.srcL f p ms).own b->b<w'.heap.size:=fun b hb=>by
  rcases hb with hb|rfl|rfl
  . exact Nat.lt_of_lt_of_le (h.olt b hb) hF.fr.size
  . exact aB hF.hp
  . exact aB hF.m
 have hext:∀b,(L.srcL f p ms).own b->L.own b\/w.heap.size<=b:=fun b hb=>by
  rcases hb with hb|rfl|rfl
  . exact .inl hb
  . exact .inr hpl
  . rcases hms with h1|h1
    . exact .inr h1
    . exact .inl h1.1
 have hsf:(L.srcL f p ms).sb f=p:=by simp[aM.srcL]
 refine⟨⟨⟨hF.s,.inl h.bo,hlt,?_,fun g c hg=>?_,fun a b ha hb hab=>?_,fun b hb=>?_,?_,⟨(h.bg.keep fun b cs hb=>hcs b cs _ hb (by decide)).1,fun g hg=>.inl (h.bg.2 g hg)⟩,⟨(h.kv.keep fun b cs hb=>hcs b cs _ hb (by decide)).1,fun g hg=>.inl (h.kv.2 g hg)⟩,h.perm,h.nd,h.kl,h.ex,fun j m hj=>?_⟩,h.heap⟩,⟨fun j hj=>⟨hj,rfl⟩,fun g hg=>⟨?_,hsb g hg⟩,hext,hfr⟩⟩
 . refine .inr ⟨ms,_,_,rfl,.inr (.inr rfl),hF.m,fs ++ [f],?_,?_,fun g=>?_⟩
   . rw[Array.toList_push,List.map_append,hes,List.map_append]
     congr 1
     . refine List.map_congr_left fun j hj=>?_
       rw[hsb j ((hks j).1 hj)]
     . simp[hsf]
   . rw[List.nodup_append]
     exact⟨hnd,by simp,fun a ha b hb=>by simp at hb;subst hb;intro e;exact ((hks a).1 ha) (e ▸ hf)⟩
   . rw[List.mem_append,hks]
     by_cases hg:g=f
     . simp[hg]
     . simp[hg]
 . by_cases hgf:g=f
   . subst hgf
     simp at hg;subst hg;rw[hsf];exact⟨.inr (.inl rfl),hF.hp⟩
   . have hg':st.src g=some c:=by simpa[hgf] using hg
     rw[hsb g (by rw[hg'];simp)];exact⟨.inl (h.srb g c hg').1,hcs _ _ _ (h.srb g c hg').2 (by decide)⟩
 . by_cases h1:a=f
   . by_cases h2:b=f
     . rw[h1,h2]
     . have hb':st.src b≠none:=by simpa[h2] using hb
       rw[h1,hsf,hsb b hb'] at hab;obtain⟨c,hc⟩:=Option.ne_none_iff_exists'.1 hb';have:=aB (h.srb b c hc).2
       omega
   . have ha':st.src a≠none:=by simpa[h1] using ha
     by_cases h2:b=f
     . rw[h2,hsf,hsb a ha'] at hab
       obtain⟨c,hc⟩:=Option.ne_none_iff_exists'.1 ha';have:=aB (h.srb a c hc).2
       omega
     . have hb':st.src b≠none:=by simpa[h2] using hb
       rw[hsb a ha',hsb b hb'] at hab;exact h.sri a b ha' hb' hab
 . cases hb
   intro e;rcases hms with h5|h5
   . rcases h.sm with ⟨h1,_⟩|⟨b,es',n',h1,h2,h3,h4⟩
     . rw[h1] at e;cases e
     . rw[h1] at e;cases e
       have:=aB h3;omega
   . exact h.qm ms h5.2.1 e
 . rcases h.sm with h1|⟨b,es',n',h1,h2,h3,h4⟩
   . exact .inl h1
   . refine .inr ⟨b,es',n',h1,.inl h2,hmp b es' n' (fun e=>?_) h3,h4⟩
     rcases hms with h5|h5
     . have:=aB h3;omega
     . exact h.qm ms h5.2.1 (e ▸ h1)
 . have hc:=h.cell j m hj
   obtain⟨x,vs,a,b⟩:=hc.ex;exact⟨⟨x,vs,hcs _ _ _ a fU.1,b.next hfr hext⟩,.inl hc.own⟩
 . show (if g=f then some 0 else st.src g)≠none
   have:g≠f:=fun e=>hg (e ▸ hf)
   simpa[this] using hg
structure zR (w W:World) (bs p ms n:Nat) (es:Array MapEntry) (fm:Value) (rv:Int) (sm bg kv:Value) (us:Int):Prop where
 s:W.heap[bs]? = some (.cells #[fm,.int .i64 rv,.map (some ms),sm,bg,kv,.int .u64 us] 66)
 hp:W.heap[p]? = some (.cells #[.int .i64 0] 162)
 m:W.heap[ms]? = some (.map es n)
 lp:w.heap.size<=p
 fr:Ses.Fr [bs] w W
theorem zR.below{w W W':World}{bs p ms n:Nat}{es:Array MapEntry}{fm:Value}{rv:Int}{sm bg kv:Value}{us:Int}(h:zR w W bs p ms n es fm rv sm bg kv us)(hb:Below W.heap.size W W'):zR w W' bs p ms n es fm rv sm bg kv us:=
 ⟨below_heap hb (aB h.s) h.s,below_heap hb (aB h.hp) h.hp,below_heap hb (aB h.m) h.m,h.lp,h.fr.trans (Ses.Fr.of_below hb)⟩
theorem zR.store{w W:World}{bs p ms n:Nat}{es:Array MapEntry}{fm:Value}{rv:Int}{sm bg kv:Value}{us:Int}(h:zR w W bs p ms n es fm rv sm bg kv us)(f:Value) :
 SN w (Ses.setO W ms (.map (es.push {key:=f,val:=.pointer (some ⟨p,0,none⟩),born:=n}) (n+1))) bs p ms n es f fm rv sm bg kv us:=by
 have h1:bs≠ms:=fun e=>by
  have:=h.s
  rw[e,h.m] at this;injection this with this;cases this
 have h2:p≠ms:=fun e=>by
  have:=h.hp
  rw[e,h.m] at this;injection this with this;cases this
 exact⟨(Ses.setO_ne _ _ _ _ h1).trans h.s,(Ses.setO_ne _ _ _ _ h2).trans h.hp,Ses.setO_eq _ h.m,h.lp,(h.fr.mono (T:=[bs,ms]) (fun b hb=>.inl (by simp at hb ⊢;exact .inl hb))).setO _ (.inl (by simp)) _⟩
theorem JG{w:World}{bs:Nat}{fm:Value}{rv:Int}{sm bg kv:Value}{us:Int}(h:w.heap[bs]? = some (.cells #[fm,.int .i64 rv,.map none,sm,bg,kv,.int .u64 us] 66)) :
 zR w (((w.setCell ⟨bs,2,none⟩ (.map (some (w.heap.size+1)))).alloc (.cells #[.int .i64 0] 162)).alloc (.map #[] 0)) bs w.heap.size (w.heap.size+1) 0 #[] fm rv sm bg kv us:=by
 have hb:=aB h;have s0:(w.setCell ⟨bs,2,none⟩ (.map (some (w.heap.size+1)))).heap[bs]? = some (.cells #[fm,.int .i64 rv,.map (some (w.heap.size+1)),sm,bg,kv,.int .u64 us] 66):=aH (i:=2) h (.map (some (w.heap.size+1)));have hz:((w.setCell ⟨bs,2,none⟩ (.map (some (w.heap.size+1)))).alloc (.cells #[.int .i64 0] 162)).heap.size=w.heap.size+1:=by simp
 have hA1:=aI (w.setCell ⟨bs,2,none⟩ (.map (some (w.heap.size+1)))) (.cells #[.int .i64 0] 162);rw[show (w.setCell ⟨bs,2,none⟩ (.map (some (w.heap.size+1)))).heap.size=w.heap.size by simp] at hA1;have hA2:=aI ((w.setCell ⟨bs,2,none⟩ (.map (some (w.heap.size+1)))).alloc (.cells #[.int .i64 0] 162)) (.map #[] 0);rw[hz] at hA2;exact⟨aC _ (aC _ s0),aC _ hA1,hA2,Nat.le_refl _,(((Ses.Fr.refl _ _).setCell _ (.inl (by simp)) _).alloc _).alloc _⟩
theorem Er{bs:Nat}{fm:Value}{rv:Int}{sm bg kv:Value}{us:Int}(w:World)(f:ByteArray)(hfl:f.size<=cD)(h:w.heap[bs]? = some (.cells #[fm,.int .i64 rv,.map none,sm,bg,kv,.int .u64 us] 66)) :
 Calls Tryz.prog 84 #[.pointer (some ⟨bs,1,none⟩),.string f] w fun e w'=>∃p ms,e = .returned (.pointer (some ⟨p,0,none⟩))/\w.heap.size<=ms/\SN w w' bs p ms 0 #[] (.string f) fm rv sm bg kv us:=by
 have c2:w.cell? ⟨bs,2,none⟩=some (.map none):=aA (i:=2) h;have hb:=aB h;have e2:∀o p,((w.alloc o).alloc p).cell? ⟨bs,2,none⟩=some (.map none):=fun o p=>aA (i:=2) (aC p (aC o h));have d2:∀o,(w.alloc o).cell? ⟨bs,2,none⟩=some (.map none):=fun o=>aA (i:=2) (aC o h);have g2:∀o p,((w.alloc o).alloc p).frozen? ⟨bs,2,none⟩=false:=fun o p=>aE (aC p (aC o h));have hmn:∀W:World,(binOp .eql 57 (.map none) (.map none)).run Tryz.prog W = .ok (.bool true) W:=fun W=>run_eql_map_nil W 57 9 163 none Tryz.underlying57;have hmk:∀W:World,(Instr.makeMap 57 none).run Tryz.prog W = .ok (.map (some W.heap.size)) (W.alloc (.map #[] 0)):=fun W=>@run_makeMap Tryz.prog 57 W;have hl:=uJ (src:=fun _=>none) (L:=⟨fun _=>0,fun _=>0,fun _=>False⟩) (q:=.map none) (w:=w) (.inl ⟨rfl,fun _=>rfl⟩) f;rw[if_pos rfl] at hl;have HP:=hid (JG h);have HFL:=hid hfl;clear h hfl;go_enter Tryz.func84,Tryz.ntmps84;go_wp2;generalize ((w.setCell ⟨bs,2,none⟩ (.map (some (w.heap.size+1)))).alloc (.cells #[.int .i64 0] 162)).alloc (.map #[] 0)=W at HP ⊢;have HP2:=hid HP.out;have d2:W.cell? ⟨bs,2,none⟩=some (.map (some (w.heap.size+1))):=aA (i:=2) HP2.out.s;have hst:∀W:World,W.heap[w.heap.size+1]? = some (.map #[] 0)->(Instr.mapUpdate 57 (.map (some (w.heap.size+1))) (.string f) (.pointer (some ⟨w.heap.size,0,none⟩))).run Tryz.prog W = .ok () (Ses.setO W (w.heap.size+1) (.map (#[].push {key:=.string f,val:=.pointer (some ⟨w.heap.size,0,none⟩),born:=0}) (0+1))):=fun W hW=>xH (fs:=[]) (g:=fun _=>.nilIface) f _ hW rfl (by simp);clear HP c2 e2 g2 hmn hmk hl hb;go_region_with (go_at_call 23;go_must (refine (dJ _ _ HFL.out).mono ?_;rintro e w'⟨rfl,hb⟩;have HP3:Hid (zR w w' bs w.heap.size (w.heap.size+1) 0 #[] fm rv sm bg kv us):=(by first|exact hid (HP2.out.below hb)|exact hid ((HP2.out.below (aJ _)).below hb));have d2':w'.cell? ⟨bs,2,none⟩=some (.map (some (w.heap.size+1))):=aA (i:=2) HP3.out.s;have q2':=HP3.out.m))
 all_goals go_wp2
 all_goals go_ret
 all_goals exact⟨_,_,rfl,by omega,HP3.out.store _⟩
theorem GJ{w:World}{bs ms n:Nat}{es:Array MapEntry}{fm:Value}{rv:Int}{sm bg kv:Value}{us:Int}(h:w.heap[bs]? = some (.cells #[fm,.int .i64 rv,.map (some ms),sm,bg,kv,.int .u64 us] 66))(hm:w.heap[ms]? = some (.map es n)) :
 zR w (w.alloc (.cells #[.int .i64 0] 162)) bs w.heap.size ms n es fm rv sm bg kv us:=
 ⟨aC _ h,aI _ _,aC _ hm,Nat.le_refl _,(Ses.Fr.refl _ _).alloc _⟩
theorem Es{bs ms n:Nat}{es:Array MapEntry}{fm:Value}{rv:Int}{sm bg kv:Value}{us:Int}(w:World)(f:ByteArray)(hfl:f.size<=cD)(h:w.heap[bs]? = some (.cells #[fm,.int .i64 rv,.map (some ms),sm,bg,kv,.int .u64 us] 66))(hm:w.heap[ms]? = some (.map es n))
 (hl:∀w:World,w.heap[ms]? = some (.map es n)->(Instr.lookup 57 (.map (some ms)) (.string f) true).run Tryz.prog w = .ok (.tuple #[.pointer none,.bool false]) w)
 (hst:∀(v:Value) (w:World),w.heap[ms]? = some (.map es n)->(Instr.mapUpdate 57 (.map (some ms)) (.string f) v).run Tryz.prog w = .ok () (Ses.setO w ms (.map (es.push {key:=.string f,val:=v,born:=n}) (n+1)))) :
 Calls Tryz.prog 84 #[.pointer (some ⟨bs,1,none⟩),.string f] w fun e w'=>∃p,e = .returned (.pointer (some ⟨p,0,none⟩))/\SN w w' bs p ms n es (.string f) fm rv sm bg kv us:=by
 have c2:w.cell? ⟨bs,2,none⟩=some (.map (some ms)):=aA (i:=2) h;have d2:∀o,(w.alloc o).cell? ⟨bs,2,none⟩=some (.map (some ms)):=fun o=>aA (i:=2) (aC o h);have hmn:∀W:World,(binOp .eql 57 (.map (some ms)) (.map none)).run Tryz.prog W = .ok (.bool false) W:=fun W=>run_eql_map_nil W 57 9 163 (some ms) Tryz.underlying57;have hl1:=hl w hm;have HP:=hid (GJ h hm);have HFL:=hid hfl;clear h hm hl hfl;go_enter Tryz.func84,Tryz.ntmps84;go_wp2;generalize w.alloc (.cells #[.int .i64 0] 162)=W at HP ⊢;have HP2:=hid HP.out;have d2:W.cell? ⟨bs,2,none⟩=some (.map (some ms)):=aA (i:=2) HP2.out.s;have hst2:=hst (.pointer (some ⟨w.heap.size,0,none⟩));clear HP c2 hmn hl1;go_region_with (go_at_call 23;go_must (refine (dJ _ _ HFL.out).mono ?_;rintro e w'⟨rfl,hb⟩;have HP3:Hid (zR w w' bs w.heap.size ms n es fm rv sm bg kv us):=(by first|exact hid (HP2.out.below hb)|exact hid ((HP2.out.below (aJ _)).below hb));have d2':w'.cell? ⟨bs,2,none⟩=some (.map (some ms)):=aA (i:=2) HP3.out.s;have q2':=HP3.out.m))
 all_goals go_wp2
 all_goals go_ret
 all_goals exact⟨_,rfl,HP3.out.store _⟩
theorem Et{bs:Nat}{q:Value}{p:Nat}(w:World)(f:ByteArray)(c2:w.cell? ⟨bs,2,none⟩=some q)(hl:(Instr.lookup 57 q (.string f) true).run Tryz.prog w = .ok (.tuple #[.pointer (some ⟨p,0,none⟩),.bool true]) w) :
 Calls Tryz.prog 84 #[.pointer (some ⟨bs,1,none⟩),.string f] w fun e w'=>e = .returned (.pointer (some ⟨p,0,none⟩))/\w'=w:=by
 go_enter Tryz.func84,Tryz.ntmps84;go_wp2;go_ret;exact⟨rfl,rfl⟩
theorem DQ{st:St V}{L:aM}{bs:Nat}{fm:Value}{w:World}(h:bN st L none bs fm w)(f:ByteArray)(hfl:f.size<=cD) :
 Calls Tryz.prog 84 #[.pointer (some ⟨bs,1,none⟩),.string f] w fun e w'=>∃L',e = .returned (ptr (L'.sb f))/\bN (st.source f) L' none bs fm w'/\Next st (st.source f) L L' w w':=by
 obtain⟨q,sm,bg,kv,arr,h⟩:=h;by_cases hs:st.src f=none
 . rcases id h.sr with ⟨h1,h2⟩|⟨b,es,n,h1,h2,h3,fs,h4,h5,h6⟩
   . have hS:=h.s
     rw[h1] at hS;refine (Er w f hfl hS).mono fun e w' ⟨p,ms,e1,e2,e3⟩=>?_;obtain⟨a,b⟩:=e3.eng h hs (fs:=[]) rfl (by simp) (fun g=>by simp[h2 g]) (.inl e2);exact⟨_,by rw[e1];simp[aM.srcL],⟨_,_,_,_,_,a⟩,b⟩
   . have hS:=h.s
     subst h1;have hnk:f∉fs:=fun e=>(h6 f).1 e hs;refine (Es w f hfl hS h3 (fun w hw=>?_) (fun v w hm=>xH (fs:=fs) (g:=fun g=>ptr (L.sb g)) f v hm h4 hnk)).mono fun e w' ⟨p,e1,e3⟩=>?_
     . have:=uJ (src:=st.src) (L:=L) (q:=.map (some b)) (w:=w) (.inr ⟨b,es,n,rfl,h2,hw,fs,h4,h5,h6⟩) f
       rwa[if_pos hs] at this
     . obtain⟨a,b⟩:=e3.eng h hs h4 h5 h6 (.inr ⟨h2,rfl,h3⟩)
       exact⟨_,by rw[e1];simp[aM.srcL],⟨_,_,_,_,_,a⟩,b⟩
 . have hl:=uJ h.sr f
   rw[if_neg hs] at hl;refine (Et w f (aA (i:=2) h.s) hl).mono fun e w' ⟨e1,e2⟩=>⟨L,e1,?_,?_⟩
   . subst e2;rw[lV hs];exact⟨_,_,_,_,_,h⟩
   . subst e2;rw[lV hs];exact Next.refl st L w'

theorem xI(st:St V)(f:ByteArray):(st.source f).src f≠none:=by
 by_cases h:st.src f=none
 . rw[oT h];simp
 . rw[lV h];exact h
section
variable {W0:World} {E:eF V} {B bs lb:Nat} {fm:Value} {st0 st st':St V} {L0 L:aM} {w0 w:World} {lk lk':List Lk} {nc:Bool}
theorem FM.files{W0:World}{F F':ByteArray->Option ByteArray}{L:aM}{fm:Value}{w:World}(h:FM W0 F L fm w)(e:F'=F):FM W0 F' L fm w:=by rw[e];exact h
theorem JH(hW:WS W0 B bs lb fm st0 L0 w0 st L lk w){f:ByteArray}(hl:lk.length<cD){L1:aM}{w1:World}(hE1:bN (st.source f) L1 none bs fm w1)(hN1:Next st (st.source f) L L1 w w1) :
 Calls Tryz.prog 88 #[.pointer (some ⟨lb,0,none⟩),.iface 163 (.pointer (some ⟨L1.sb f,0,none⟩))] w1 fun e w2=>e = .returned (.tuple #[])/\∃L',mZ W0 B bs lb fm st0 L0 w0 st L w (st.source f) L' (lk ++ [.src f]) w2:=by
 have hK1:=hW.k.next hN1;obtain⟨lv,hlb,ho,hn⟩:=id hK1.blk;obtain⟨la,ln,hsh⟩:∃a c,lv = .slice a lk.length c:=by
  obtain⟨_,⟨h1,h0⟩|⟨g,c,_,h1,_⟩⟩:=ho
  . exact⟨none,0,by rw[h1,h0]⟩
  . exact⟨_,_,h1⟩
 subst hsh;have hne:(Value.slice la lk.length ln).ownBlock≠some lb:=fun e=>by
  obtain⟨cur,e3⟩:=jG ho e;rw[hlb] at e3;injection e3 with e3;injection e3 with _ e3;exact absurd e3 (by decide)
 have hadd:=ML 163 (L1.sb f) hlb ho (by unfold cD at hl;exact hl) hK1.ge hne;refine hadd.mono ?_;rintro e w2⟨rfl,hA⟩;obtain⟨a1,a2,a3,_⟩:=hK1.add hE1 hl hlb (l:=.src f) (xI st f) hA;have hM1:FM W0 (st.source f).files L1 fm w1:=(hW.m.next hN1).files (oS st f);have hN2:=hN1.toW.trans a3;exact⟨rfl,L1,hN2,a2,a1,hM1.wnext a3 hlb hW.l0 hW.b0,hW.l0,hW.b0,hW.n.trans hN2⟩
theorem Oh(hW:WS W0 B bs lb fm st0 L0 w0 st L lk w){f:ByteArray}(hf:f.size<=cD)(hl:lk.length<cD) :
 Calls Tryz.prog 119 #[ptr lb,.string f] w fun e w'=>e = .returned (.tuple #[])/\∃L',mZ W0 B bs lb fm st0 L0 w0 st L w (st.source f) L' (lk ++ [.src f]) w':=by
 obtain⟨lv,hlb,_⟩:=hW.k.blk;have l0:w.cell? ⟨lb,0,none⟩=some (.pointer (some ⟨bs,1,none⟩)):=aA (i:=0) hlb;have HW:=hid hW;have HS:=hid (DQ hW.e f hf);clear hW hlb;go_enter Tryz.func119,Tryz.ntmps119;go_wp2_with fail
 refine HS.out.mono ?_;rintro e w1⟨L1,rfl,hE1,hN1⟩;have HA:=hid (JH HW.out hl hE1 hN1);clear hE1 hN1 HS;generalize L1.sb f=p at HA ⊢;go_wp2_with fail
 refine HA.out.mono ?_;rintro e w2⟨rfl,hq⟩;have HQ:=hid hq;clear hq;go_wp2;go_end0
 exact⟨rfl,HQ.out⟩
theorem KN(hE:bN st L none bs fm w)(hM:FM W0 st.files L fm w)(f:ByteArray) :
 Calls Tryz.prog 30 #[ptr bs,.string f] w fun e w'=>e = .returned (.tuple #[.string ((st.files f).getD bA),.bool (st.files f).isSome])/\Below w.heap.size w w':=by
 obtain⟨q,sm,bg,kv,arr,h⟩:=hE;have c0:w.cell? ⟨bs,0,none⟩=some fm:=aA (i:=0) h.s;have hl:=Ep hM f;obtain⟨x,hx⟩:∃x,x=(st.files f).getD bA:=⟨_,rfl⟩
 obtain⟨b,hb⟩:∃b,b=(st.files f).isSome:=⟨_,rfl⟩
 rw[<-hx,<-hb] at hl ⊢;clear h hM hx hb;go_enter Tryz.func30,Tryz.ntmps30;go_wp2;go_ret2;exact⟨rfl,(Below.refl _ _).alloc (Nat.le_refl _) _⟩
theorem lookW(hW:WS W0 B bs lb fm st0 L0 w0 st L lk w){f:ByteArray}(hf:f.size<=cD)(hl:lk.length<cD) :
 Calls Tryz.prog 90 #[ptr bs,ptr lb,.string f] w fun e w'=>e = .returned (.tuple #[.string ((st.files f).getD bA),.bool (st.files f).isSome])/\∃L',mZ W0 B bs lb fm st0 L0 w0 st L w (st.source f) L' (lk ++ [.src f]) w':=by
 have HS:=hid (Oh hW hf hl);clear hW;go_enter Tryz.func90,Tryz.ntmps90;go_wp2_with fail
 refine HS.out.mono ?_;rintro e w1⟨rfl,L1,hg⟩;have HT:=hid (KN hg.s.e hg.s.m f);rw[oS] at HT;have HG:=hid hg;clear hg HS;go_wp2_with fail
 refine HT.out.mono ?_;rintro e w2⟨rfl,hb⟩;have HB:=hid hb;clear hb;go_wp2;go_ret2;exact⟨rfl,L1,HG.out.below HB.out⟩
end
theorem gW{O:Nat->Prop}{w:World}{B z n:Nat}{T:TypeId}{v:Value}{xs:List Value}(h:w.ownsRow B T z v n xs)(hO:∀g,B<=g->¬O g):Row O w T v n xs:=by
 obtain⟨hl,⟨h1,h0⟩|⟨g,c,cur,h1,h3,h4,h5,h6,h7,h8⟩⟩:=h
 . subst h1;exact⟨none,0,by rw[h0],by omega,fun hn=>by omega⟩
 . subst h1
   refine⟨_,c,rfl,h5,fun hn=>⟨g,cur,rfl,hO g h3,h4,?_⟩⟩;rw[hl];exact h8
theorem CB{W0:World}{B bs lb:Nat}{fm:Value}{st:St V}{L:aM}{w:World}(hW:WS W0 B bs lb fm st L w st L [] w){f nm:ByteArray}{E:eF V}{nc:Bool}{out:Out (V×List Lk)}{st':St V}(hr:run E nc (.look f fun o=>.ret (.s (if o.isSome then tJ else Ml))) [] st=some (out,st')) :
 Calls Tryz.prog 59 #[ptr bs,ptr lb,.agg #[.int .i64 1,.string f,.string nm]] w (bM B st L bs lb fm 1 out st' w):=by
 obtain⟨hl,hf,hr⟩:=Be hr;obtain⟨rfl,rfl⟩:=eO hr;have HB0:=hid (aG w (.cells #[.int .i64 1,.string f,.string nm] 99));have HS:=hid (lookW (hW.below HB0.out) hf hl);have hA:=aI w (.cells #[.int .i64 1,.string f,.string nm] 99);have a0:(w.alloc (.cells #[.int .i64 1,.string f,.string nm] 99)).cell? ⟨w.heap.size,0,none⟩=some _:=aA (i:=0) hA;have a1:(w.alloc (.cells #[.int .i64 1,.string f,.string nm] 99)).cell? ⟨w.heap.size,1,none⟩=some _:=aA (i:=1) hA;have a2:(w.alloc (.cells #[.int .i64 1,.string f,.string nm] 99)).cell? ⟨w.heap.size,2,none⟩=some _:=aA (i:=2) hA;obtain⟨b,hb⟩:∃b,b=(st.files f).isSome:=⟨_,rfl⟩
 rw[<-hb] at HS ⊢;obtain⟨y,hy⟩:∃y,y=(if b=true then tJ else Ml):=⟨_,rfl⟩
 rw[<-hy];have HY:=hid hy;clear hA hW hr hb hy;go_enter Tryz.func59,Tryz.ntmps59;go_wp2_with fail
 refine HS.out.mono ?_;rintro e w1⟨rfl,hg⟩;have HG:=hid hg;clear hg;cases b;all_goals
  have hy:=HY.out;simp only[Bool.false_eq_true,if_false,if_true] at hy;subst hy;go_wp2;go_ret;obtain⟨L',hg⟩:=HG.out;exact hg.s.doneS (kind:=1) (by decide) (by decide) (by decide) _
theorem Bg{W0:World}{B bs lb:Nat}{fm:Value}{st:St V}{L:aM}{w:World}(hW:WS W0 B bs lb fm st L w st L [] w){f nm:ByteArray}{E:eF V}{nc:Bool}{out:Out (V×List Lk)}{st':St V}(hr:run E nc (.look f fun o=>.ret (.t (aN (o.getD bA)))) [] st=some (out,st')) :
 Calls Tryz.prog 63 #[ptr bs,ptr lb,.agg #[.int .i64 2,.string f,.string nm]] w (bM B st L bs lb fm 2 out st' w):=by
 obtain⟨hl,hf,hr⟩:=Be hr;obtain⟨rfl,rfl⟩:=eO hr;have HB0:=hid (aG w (.cells #[.int .i64 2,.string f,.string nm] 99));have HS:=hid (lookW (hW.below HB0.out) hf hl);have hA:=aI w (.cells #[.int .i64 2,.string f,.string nm] 99);have a0:(w.alloc (.cells #[.int .i64 2,.string f,.string nm] 99)).cell? ⟨w.heap.size,0,none⟩=some _:=aA (i:=0) hA;have a1:(w.alloc (.cells #[.int .i64 2,.string f,.string nm] 99)).cell? ⟨w.heap.size,1,none⟩=some _:=aA (i:=1) hA;have a2:(w.alloc (.cells #[.int .i64 2,.string f,.string nm] 99)).cell? ⟨w.heap.size,2,none⟩=some _:=aA (i:=2) hA;have hsz:((st.files f).getD bA).size<=400:=by
  cases hF:st.files f with
  | none=>simp[ByteArray.size]
  | some x=>exact hW.m.sm f x hF
 obtain⟨x,hx⟩:∃x,x=(st.files f).getD bA:=⟨_,rfl⟩
 obtain⟨b,hb⟩:∃b,b=(st.files f).isSome:=⟨_,rfl⟩
 rw[<-hb,<-hx] at HS;rw[<-hx] at hsz ⊢;clear hA hW hr hb hx;go_enter Tryz.func63,Tryz.ntmps63;go_wp2_with fail
 refine HS.out.mono ?_;rintro e w1⟨rfl,hg⟩;have HG:=hid hg;clear hg;go_wp2_with fail
 refine (tE x _ hsz).mono ?_;rintro e w2⟨v,rfl,hown,hb2⟩;have HO:=hid hown;have HB2:=hid hb2;obtain⟨ao,c,rfl⟩:∃ao c,v = .slice ao (aN x).length c:=by
  obtain⟨_,⟨h1,h0⟩|⟨g,c,_,h1,_⟩⟩:=hown
  . exact⟨none,0,by rw[h1,h0]⟩
  . exact⟨_,_,h1⟩
 clear hown hb2;go_wp2;go_ret;obtain⟨L',hg⟩:=HG.out;have h2:=hg.s.below HB2.out;refine h2.done (kind:=2) (v:=.t (aN x)) (vs:=[.slice ao (aN x).length c]) ⟨⟨rfl,x,hsz,rfl⟩,_,rfl,?_⟩;exact gW HO.out fun g hg1=>fun e=>by
  obtain⟨q,sm,bg,kv,arr,hx⟩:=hg.s.e;have:=hx.olt g e
  omega
end Go.Proofs.YthibodlojlkppaaGreatDoor
namespace Go.Proofs.YthibodlojlkppaaGreatDoor
open Go.RowKit
theorem Tryz.infoItem:(Tryz.prog.info? 137).map (fun i=>(i.zero,i.size,i.bytes))=some (some (.agg #[.int .i64 0,.int .i64 0,.string ⟨#[]⟩,.string ⟨#[]⟩,.nilIface]),5,64):=by kernel_rfl
def Lp(toks:List Tok)(tb cap:Nat)(w:World)(k:Nat)(wr:World):Prop:=
 ∃a v acc f,k=f+1/\a<toks.length/\toks.length-a<=f+1/\acc.length<=a/\TS toks tb cap w wr a v acc.length (acc.flatMap aP) (-1)/\(acc++(jM toks (f+1) a).1,(jM toks (f+1) a).2)=iB toks
theorem oU(w:World)(b:Nat)(hb:b=w.heap.size)(x y z u1 u2:Value)(T:TypeId):∀j u,[x,y,z,u1,u2][j]? = some u->(w.alloc (.cells #[x,y,z,u1,u2] T)).cell? ((⟨b,0,none⟩:Addr).add j)=some u:=by
 subst hb;intro j u hj;match j,hj with
 | 0,hj|1,hj|2,hj|3,hj|4,hj=>simp at hj;subst hj;simp[Addr.add]
 | (n+5),hj=>simp at hj
theorem lW{toks:List Tok}{tb cap:Nat}{w wr w':World}{a:Nat}{v:Value}{n:Nat}{xs:List Value}{fault:Int}(h:TS toks tb cap w wr a v n xs fault)(hg:wr.grownBy w' v.ownBlock) :
 w'.cell? ⟨w.heap.size+1+1,0,none⟩=some v/\w'.frozen? ⟨w.heap.size+1+1,0,none⟩=false:=by
 have hlt:=fun k hk=>(h.own.lt k hk).1;have:=(hg.block (w.heap.size+1+1) (aB h.tr) fun e=>by have:=hlt _ e.symm;omega).trans h.tr
 exact⟨aA this,aE this⟩
theorem zS{toks:List Tok}(hw:Wf toks)(tb cap:Nat)(w:World)(ht:∃cur,w.heap[tb]? = some (.cells cur 121)/\cur.toList.take (3*toks.length)=aV toks) :
 Calls Tryz.prog 94 #[.slice (some ⟨tb,0,none⟩) toks.length cap] w fun e w'=>∃v,e = .returned (.agg #[v,cU (iB toks).2])/\w'.ownsRow w.heap.size 137 5 v (iB toks).1.length ((iB toks).1.flatMap aP)/\Below w.heap.size w w':=by
 obtain⟨i0',hi',hz0,hz1,hz2⟩:=info_parts Tryz.infoItem;have HT0:=hid (TS.start (cap:=cap) ht);have HW:=hid hw;clear hw ht;go_enter Tryz.func94,Tryz.ntmps94;go_wp2;go_loopg [5,6] toks.length (fun k v5 v6 wr=>Lp toks tb cap w k wr)
 case atStart=>exact⟨0,_,[],toks.length-1,by have:=HW.out.pos;omega,HW.out.pos,by omega,by simp,HT0.out,by rw[show toks.length-1+1=toks.length from by have:=HW.out.pos;omega];rfl⟩
 case round=>
  clear HT0;obtain⟨a,v,acc,f,rfl,ha,hf,hacc,hts,heq⟩:=hrel;obtain⟨ao,m,c,rfl⟩:=hts.shape;have HTS:=hid hts;have HE:=hid heq;have HL:=hid HW.out.le;clear hts heq;cases he:bB (tx toks a) ⟨#[]⟩ with
  | true=>
   have HT:Hid ((acc,(none:Option Nat))=iB toks):=hid (by have h:=HE.out;simpa[jM,he] using h);have HB:=hid he;clear he HE;go_wp2_with (go_at_call 123;go_must (refine (p5 toks _ tb cap a 0 _ HTS.out.ps ha).mono ?_;rw[HB.out];rintro e w1⟨rfl,hb⟩;have HT1:=hid (HTS.out.call (Fr.of_below hb) (HTS.out.ps.below hb));clear hb;have q0:=HT1.out.r0;have q1:=HT1.out.r1;have f0:=HT1.out.rf 0;have f1:=HT1.out.rf 1;have t0:=HT1.out.t0;have t1:=HT1.out.t1))
   obtain⟨hr,hown,hbl⟩:=HT1.out.setR (.slice ao m c) (.int .i64 (-1));have y0:=aA (i:=0) hr;have y1:=aA (i:=1) hr;refine bodyPost_ret (v:=.agg #[.slice ao m c,.int .i64 (-1)]) (by simp[results,Tryz.results94,go_sem,y0,y1];try rfl) rfl ?_;rw[<-HT.out];exact⟨_,rfl,hown,hbl⟩
  | false=>
   rcases hip:mG toks a with ⟨b,r⟩
   have HIP:=hid hip;cases r with
   | none=>
    have HT:Hid ((acc,some b)=iB toks):=hid (by have h:=HE.out;simpa[jM,he,hip] using h);clear hip HE;have HB:=hid he;clear he;go_wp2_with fail
    refine (p5 toks _ tb cap a 0 _ HTS.out.ps ha).mono ?_;rw[HB.out];rintro e w1⟨rfl,hb⟩;have HT1:=hid (HTS.out.call (Fr.of_below hb) (HTS.out.ps.below hb));clear hb;go_wp2_with fail
    refine (tI HW.out _ tb cap a _ ha HT1.out.ps).mono ?_;rw[HIP.out];rintro e w2⟨⟨v2,rfl,⟨i0,i1,s2,s3,x4,rfl,hi⟩,hx⟩,hP2,hb2,hF2⟩;have HT2:=hid (HT1.out.call hF2 hP2);clear hP2 hF2;clear hx;rcases hi with rfl|⟨t4,v4,rfl⟩
    . have ht3:=HT2.out.alloc (.cells #[.int .i64 i0,.int .i64 i1,.string s2,.string s3,.nilIface] 137)
      have p1:=ht3.ps.c1;have u1:=ht3.t1;have uf1:=ht3.tf 1;have ht4:=ht3.faulty b;have t0:=ht4.t0;have t1:=ht4.t1;have q0:=ht4.r0;have q1:=ht4.r1;have f0:=ht4.rf 0;have f1:=ht4.rf 1;obtain⟨hr,hown,hbl⟩:=ht4.setR (.slice ao m c) (.int .i64 b);have y0:World.cell? _ ⟨w.heap.size,0,none⟩=some (.slice ao m c):=aA (i:=0) hr;have y1:World.cell? _ ⟨w.heap.size,1,none⟩=some (.int .i64 b):=aA (i:=1) hr;have HR:=hid hown;have HBL:=hid hbl;clear ht3 ht4 hr hown hbl;go_wp2;refine bodyPost_ret (v:=.agg #[.slice ao m c,.int .i64 b]) (by simp[results,Tryz.results94,go_sem,y0,y1];try rfl) rfl ?_;rw[<-HT.out];exact⟨_,rfl,HR.out,HBL.out⟩
    . have ht3:=HT2.out.alloc (.cells #[.int .i64 i0,.int .i64 i1,.string s2,.string s3,.iface t4 v4] 137)
      have p1:=ht3.ps.c1;have u1:=ht3.t1;have uf1:=ht3.tf 1;have ht4:=ht3.faulty b;have t0:=ht4.t0;have t1:=ht4.t1;have q0:=ht4.r0;have q1:=ht4.r1;have f0:=ht4.rf 0;have f1:=ht4.rf 1;obtain⟨hr,hown,hbl⟩:=ht4.setR (.slice ao m c) (.int .i64 b);have y0:World.cell? _ ⟨w.heap.size,0,none⟩=some (.slice ao m c):=aA (i:=0) hr;have y1:World.cell? _ ⟨w.heap.size,1,none⟩=some (.int .i64 b):=aA (i:=1) hr;have HR:=hid hown;have HBL:=hid hbl;clear ht3 ht4 hr hown hbl;go_wp2;refine bodyPost_ret (v:=.agg #[.slice ao m c,.int .i64 b]) (by simp[results,Tryz.results94,go_sem,y0,y1];try rfl) rfl ?_;rw[<-HT.out];exact⟨_,rfl,HR.out,HBL.out⟩
   | some i=>
    obtain⟨ik,inum,inm,ity,iex⟩:=i;have HT:Hid ((acc ++ [⟨ik,inum,inm,ity,iex⟩]++(jM toks f b).1,(jM toks f b).2)=iB toks):=hid (by have h:=HE.out;simpa[jM,he,hip] using h);have HGE:=hid (FU HW.out hip);clear hip HE;have HB:=hid he;clear he;go_wp2_with fail
    refine (p5 toks _ tb cap a 0 _ HTS.out.ps ha).mono ?_;rw[HB.out];rintro e w1⟨rfl,hb⟩;have HT1:=hid (HTS.out.call (Fr.of_below hb) (HTS.out.ps.below hb));clear hb;go_wp2_with fail
    refine (tI HW.out _ tb cap a _ ha HT1.out.ps).mono ?_;rw[HIP.out];rintro e w2⟨⟨v2,rfl,⟨i0,i1,s2,s3,x4,rfl,hi⟩,hx⟩,hP2,hb2,hF2⟩;have HT2:=hid (HT1.out.call hF2 hP2);clear hP2 hF2;obtain⟨f,rfl⟩:∃g,f=g+1:=⟨f-1,by have:=HGE.out;omega⟩
    have hxi:=hx _ rfl;simp only[N8,Value.agg.injEq,Array.mk.injEq,List.cons.injEq,Value.int.injEq,Value.string.injEq,true_and,and_true] at hxi;obtain⟨rfl,rfl,rfl,rfl,rfl⟩:=hxi;clear hx;rcases hi with rfl|⟨t4,v4,rfl⟩
    . have HT3:=hid (HT2.out.alloc (.cells #[.int .i64 ik,.int .i64 inum,.string s2,.string s3,.nilIface] 137))
      have t0:=HT3.out.t0;have z0:(w2.alloc (.cells #[.int .i64 ik,.int .i64 inum,.string s2,.string s3,.nilIface] 137)).cell? ⟨w2.heap.size,0,none⟩=some (.int .i64 ik):=aA (i:=0) (aI w2 _);have z1:(w2.alloc (.cells #[.int .i64 ik,.int .i64 inum,.string s2,.string s3,.nilIface] 137)).cell? ⟨w2.heap.size,1,none⟩=some (.int .i64 inum):=aA (i:=1) (aI w2 _);have z2:(w2.alloc (.cells #[.int .i64 ik,.int .i64 inum,.string s2,.string s3,.nilIface] 137)).cell? ⟨w2.heap.size,2,none⟩=some (.string s2):=aA (i:=2) (aI w2 _);have z3:(w2.alloc (.cells #[.int .i64 ik,.int .i64 inum,.string s2,.string s3,.nilIface] 137)).cell? ⟨w2.heap.size,3,none⟩=some (.string s3):=aA (i:=3) (aI w2 _);have z4:(w2.alloc (.cells #[.int .i64 ik,.int .i64 inum,.string s2,.string s3,.nilIface] 137)).cell? ⟨w2.heap.size,4,none⟩=some (.nilIface):=aA (i:=4) (aI w2 _);go_wp2_with (at_builtin;go_must (refine wpList_append_own _ rfl _ _ 85 rfl (w.heap.size+3) 137 i0' (.agg #[.int .i64 0,.int .i64 0,.string ⟨#[]⟩,.string ⟨#[]⟩,.nilIface]) 5 64 Tryz.underlying85 hi' hz0 hz1 hz2 rfl (by decide) _ _ _ rfl (HT3.out.own.alloc _) ⟨_,0,none⟩ 1 1 [.int .i64 ik,.int .i64 inum,.string s2,.string s3,.nilIface] rfl rfl (oU _ _ (by simp) _ _ _ _ _ _) ?c2 ?c3 ?c4 ?c5 ?_))
      case c2=>intro u hu;simp at hu;rcases hu with rfl|rfl|rfl|rfl|rfl <;> rfl
      case c3=>have:=HL.out;unfold maxLen;omega
      case c4=>have:=HL.out;omega
      case c5=>have:=aB HT3.out.tr;simp at *;omega
      intro v' w4 hown' hgrow _;have ht4:=((HT3.out.alloc _).put hown' hgrow)
      have g0:=(lW (HT3.out.alloc _) hgrow).1;have g1:=(lW (HT3.out.alloc _) hgrow).2;obtain⟨ao',m',c',rfl⟩:=ht4.shape;have HT4:=hid ht4;clear ht4 hown' hgrow;go_wp2;go_roundg (f+1)
      all_goals first
       | omega
       | exact⟨b,_,acc ++ [⟨ik,inum,s2,s3,.nilIface⟩],f,rfl,hb2,by have:=HGE.out;omega,by have:=HGE.out;simp;omega,by simpa[aP] using HT4.out,HT.out⟩
    . have HT3:=hid (HT2.out.alloc (.cells #[.int .i64 ik,.int .i64 inum,.string s2,.string s3,.iface t4 v4] 137))
      have t0:=HT3.out.t0;have z0:(w2.alloc (.cells #[.int .i64 ik,.int .i64 inum,.string s2,.string s3,.iface t4 v4] 137)).cell? ⟨w2.heap.size,0,none⟩=some (.int .i64 ik):=aA (i:=0) (aI w2 _);have z1:(w2.alloc (.cells #[.int .i64 ik,.int .i64 inum,.string s2,.string s3,.iface t4 v4] 137)).cell? ⟨w2.heap.size,1,none⟩=some (.int .i64 inum):=aA (i:=1) (aI w2 _);have z2:(w2.alloc (.cells #[.int .i64 ik,.int .i64 inum,.string s2,.string s3,.iface t4 v4] 137)).cell? ⟨w2.heap.size,2,none⟩=some (.string s2):=aA (i:=2) (aI w2 _);have z3:(w2.alloc (.cells #[.int .i64 ik,.int .i64 inum,.string s2,.string s3,.iface t4 v4] 137)).cell? ⟨w2.heap.size,3,none⟩=some (.string s3):=aA (i:=3) (aI w2 _);have z4:(w2.alloc (.cells #[.int .i64 ik,.int .i64 inum,.string s2,.string s3,.iface t4 v4] 137)).cell? ⟨w2.heap.size,4,none⟩=some (.iface t4 v4):=aA (i:=4) (aI w2 _);go_wp2_with (at_builtin;go_must (refine wpList_append_own _ rfl _ _ 85 rfl (w.heap.size+3) 137 i0' (.agg #[.int .i64 0,.int .i64 0,.string ⟨#[]⟩,.string ⟨#[]⟩,.nilIface]) 5 64 Tryz.underlying85 hi' hz0 hz1 hz2 rfl (by decide) _ _ _ rfl (HT3.out.own.alloc _) ⟨_,0,none⟩ 1 1 [.int .i64 ik,.int .i64 inum,.string s2,.string s3,.iface t4 v4] rfl rfl (oU _ _ (by simp) _ _ _ _ _ _) ?c2 ?c3 ?c4 ?c5 ?_))
      case c2=>intro u hu;simp at hu;rcases hu with rfl|rfl|rfl|rfl|rfl <;> rfl
      case c3=>have:=HL.out;unfold maxLen;omega
      case c4=>have:=HL.out;omega
      case c5=>have:=aB HT3.out.tr;simp at *;omega
      intro v' w4 hown' hgrow _;have ht4:=((HT3.out.alloc _).put hown' hgrow)
      have g0:=(lW (HT3.out.alloc _) hgrow).1;have g1:=(lW (HT3.out.alloc _) hgrow).2;obtain⟨ao',m',c',rfl⟩:=ht4.shape;have HT4:=hid ht4;clear ht4 hown' hgrow;go_wp2;go_roundg (f+1)
      all_goals first
       | omega
       | exact⟨b,_,acc ++ [⟨ik,inum,s2,s3,.iface t4 v4⟩],f,rfl,hb2,by have:=HGE.out;omega,by have:=HGE.out;simp;omega,by simpa[aP] using HT4.out,HT.out⟩
def OX(t:ByteArray):Prop:=∀c r,t.data.toList=c::r->(bI c.toNat=true->∀x∈t.data.toList,bI x.toNat=true)/\(aQ c.toNat=true->∀x∈t.data.toList,aQ x.toNat=true)
theorem jQ{p:UInt8->Bool}:∀(l:List UInt8),∀x∈l.take (l.takeWhile p).length,p x=true
 | [],x,hx=>by simp at hx
 | y::r,x,hx=>by
  cases hp:p y with
  | false=>simp[List.takeWhile,hp] at hx
  | true=>
   simp only[List.takeWhile,hp,List.length_cons,List.take_succ_cons] at hx;rcases List.mem_cons.1 hx with rfl|hx
   . exact hp
   . exact jQ r x hx
theorem GK(s:ByteArray)(a:Nat)(h:a<s.size):(s.extract a (a+gE s a)).data.toList=((s.extract a s.size).data.toList).take (gE s a):=by
 have hb:=nL s a h;have e:(s.extract a s.size).data.toList=s.data.toList.drop a:=by
  rw[<-Lib.toList_data,Lib.extract_toList,List.take_of_length_le (by simp)]
 rw[e,<-Lib.toList_data,Lib.extract_toList];congr 1;omega
theorem sC{c:Int}(h:aQ c=true):bI c=false:=by
 simp only[aQ,Bool.and_eq_true,decide_eq_true_eq] at h;simp only[bI,Bool.and_eq_false_iff,decide_eq_false_iff_not];omega
theorem JI(s:ByteArray)(a:Nat)(h:a<s.size):OX (s.extract a (a+gE s a)):=by
 intro c r hc;obtain⟨r',hr',_⟩:=p4 s a h;have hl:=GK s a h;have hb:=nL s a h;rw[hr'] at hl;have hcs:c=s[a]:=by
  rw[hc] at hl;obtain⟨n,hn⟩:∃n,gE s a=n+1:=⟨gE s a-1,by omega⟩
  rw[hn,List.take_succ_cons] at hl;exact (List.cons.inj hl).1
 subst hcs;refine⟨fun hlet x hx=>?_,fun hd x hx=>?_⟩
 . have e:gE s a=((s[a]::r').takeWhile fun c=>bI c.toNat).length:=by
    unfold gE;rw[hr'];simp only[iE,hlet];rfl
   rw[hl,e] at hx;exact jQ (p:=fun c=>bI c.toNat) _ x hx
 . have e:gE s a=((s[a]::r').takeWhile fun c=>aQ c.toNat).length:=by
    unfold gE;rw[hr'];simp only[iE,sC hd,hd];rfl
   rw[hl,e] at hx;exact jQ (p:=fun c=>aQ c.toNat) _ x hx
theorem Eu(s:ByteArray):∀(f a line ls:Nat),a<=s.size->s.size-a<f->
 ∃M e,kO s f a line ls=M ++ [e]/\e.text=⟨#[]⟩/\(∀t∈M,∃x,x<s.size/\t.text=s.extract x (x+gE s x))/\M.length<=s.size-a:=by
 intro f;induction f with
 | zero=>intro a line ls h1 h2;omega
 | succ f ih=>
  intro a line ls h1 h2;by_cases h:a<s.size
  . rw[nM s f a line ls h]
    split
    . obtain⟨M,e,q1,q2,q3,q4⟩:=ih (a+1) (line+1) (a+1) (by omega) (by omega)
      exact⟨M,e,q1,q2,q3,by omega⟩
    . split
      . obtain⟨M,e,q1,q2,q3,q4⟩:=ih (a+1) line ls (by omega) (by omega)
        exact⟨M,e,q1,q2,q3,by omega⟩
      . split
        . obtain⟨M,e,q1,q2,q3,q4⟩:=ih (a+1) line ls (by omega) (by omega)
          exact⟨M,e,q1,q2,q3,by omega⟩
        . split
          . rename_i h35
            have hb:=Ds s a h h35;obtain⟨M,e,q1,q2,q3,q4⟩:=ih (a+rV s a) line ls (by omega) (by omega);exact⟨M,e,q1,q2,q3,by omega⟩
          . have hb:=nL s a h
            obtain⟨M,e,q1,q2,q3,q4⟩:=ih (a+gE s a) line ls (by omega) (by omega);refine⟨⟨s.extract a (a+gE s a),line,a-ls+1⟩::M,e,by rw[q1];rfl,q2,fun t ht=>?_,by simp;omega⟩;rcases List.mem_cons.1 ht with rfl|ht
            . exact⟨a,h,rfl⟩
            . exact q3 t ht
  . rw[tD s f a line ls h]
    exact⟨[],_,rfl,rfl,by simp,by simp⟩
theorem sE(s:ByteArray)(x n:Nat):(s.extract x n).size<=s.size:=by
 simp only[ByteArray.size_extract];omega
theorem oF(s:ByteArray)(hs:s.size<=400):Wf (aN s)/\∀i,OX (tx (aN s) i):=by
 obtain⟨M,e,h1,h2,h3,h4⟩:=Eu s (s.size+1) 0 1 0 (by omega) (by omega);have hlen:(aN s).length=M.length+1:=by unfold aN;rw[h1];simp
 have hmid:∀i,i<M.length->∃x,x<s.size/\tx (aN s) i=s.extract x (x+gE s x):=by
  intro i hi;have:(aN s)[i]? = some M[i]:=by unfold aN;rw[h1,List.getElem?_append_left hi,List.getElem?_eq_getElem hi]
  rw[tx,this];exact h3 _ (List.getElem_mem hi)
 have hend:∀i,M.length<=i->tx (aN s) i=⟨#[]⟩:=by
  intro i hi;by_cases e1:i=M.length
  . have:(aN s)[i]? = some e:=by unfold aN;rw[h1,e1];simp
    rw[tx,this];exact h2
  . rw[tx,List.getElem?_eq_none (by omega)];rfl
 refine⟨⟨by omega,by omega,fun i hi=>?_,hend _ (by omega),fun i=>?_⟩,fun i=>?_⟩
 . obtain⟨x,hx,hq⟩:=hmid i (by omega)
   have:=nL s x hx
   rw[hq];simp only[ByteArray.size_extract];omega
 . by_cases hi:i<M.length
   . obtain⟨x,hx,hq⟩:=hmid i hi
     rw[hq];exact Nat.le_trans (sE _ _ _) hs
   . rw[hend i (by omega)];exact Nat.zero_le _
 . by_cases hi:i<M.length
   . obtain⟨x,hx,hq⟩:=hmid i hi
     rw[hq];exact JI s x hx
   . rw[hend i (by omega)]
     intro c r h;simp at h
end Go.Proofs.YthibodlojlkppaaGreatDoor
namespace Go.Proofs.YthibodlojlkppaaGreatDoor
open Go.RowKit
variable [DecidableEq K] [LawfulBEq Lk]
theorem bN.lt{st:St V}{L:aM}{lp:Option K}{bs:Nat}{fm:Value}{w:World}(h:bN st L lp bs fm w){b:Nat}(hb:w.heap.size<=b):¬L.own b:=fun e=>by
 obtain⟨q,sm,bg,kv,arr,hx⟩:=h;have:=hx.olt b e
 omega
theorem DT{O:Nat->Prop}{w:World}{ao:Option Addr}{c:Nat}{l:List Tok}(h:Row O w 121 (.slice ao l.length c) l.length (aV l))(hp:0<l.length):∃g cur,ao=some ⟨g,0,none⟩/\¬O g/\w.heap[g]? = some (.cells cur 121)/\cur.toList.take (3*l.length)=aV l:=by
 obtain⟨a,b,e,h1,h2⟩:=h;injection e with e1 e2 e3;obtain⟨g,cur,h3,h4,h5,h6⟩:=h2 hp;exact⟨g,cur,e1.trans h3,h4,h5,by rw[<-fO l];exact h6⟩
theorem Ev{W0:World}{B bs lb:Nat}{fm:Value}{st:St V}{L:aM}{w:World}{E:eF V}(hE:dX W0 E bs fm)(hW:WS W0 B bs lb fm st L w st L [] w)(h00:W0.heap.size<=w.heap.size){f nm:ByteArray}{nc:Bool}{out:Out (V×List Lk)}{st':St V}(hr:run E nc (Ce f fun toks=>.ret (.r (bY toks).1 (bY toks).2)) [] st=some (out,st')) :
 Calls Tryz.prog 67 #[ptr bs,ptr lb,.agg #[.int .i64 3,.string f,.string nm]] w (bM B st L bs lb fm 3 out st' w):=by
 obtain⟨l,lk',st1,hm,hr⟩:=Bc hr;obtain⟨rfl,rfl⟩:=eO hr;have hb0:=((Below.refl w.heap.size w).alloc (Nat.le_refl _) (.cells #[.int .i64 3,.string f,.string nm] 99)).alloc (by simp) (.cells #[.slice none 0 0,.int .i64 0] 87);have hT:=aI (w.alloc (.cells #[.int .i64 3,.string f,.string nm] 99)) (.cells #[.slice none 0 0,.int .i64 0] 87);have hA:=aC (.cells #[.slice none 0 0,.int .i64 0] 87) (aI w (.cells #[.int .i64 3,.string f,.string nm] 99));rw[show (w.alloc (.cells #[.int .i64 3,.string f,.string nm] 99)).heap.size=w.heap.size+1 from by simp] at hT;have HTK:=hid (zQ hE (hW.below hb0) hm);obtain⟨its,hits⟩:∃its,its=(bY l).1:=⟨_,rfl⟩
 obtain⟨fl,hfl⟩:∃fl,fl=(bY l).2:=⟨_,rfl⟩
 rw[<-hits,<-hfl];have HIT:=hid (show iB l=(its.map cI,fl) by rw[AE,hits,hfl]);have HIT2:=hid (show (its,fl)=bY l by rw[hits,hfl]);clear hits hfl;have HM:=hid (And.intro (hW.mine (b:=w.heap.size+1) (Nat.le_succ _)) h00);have HT:=hid hT;have HB0:=hid hb0;have a1:=aA (i:=1) hA;clear hE hW hm hr hb0 hT hA h00;go_enter Tryz.func67,Tryz.ntmps67;go_wp2_with fail
 refine HTK.out.mono ?_;rintro e w1⟨ao,c,rfl,L',hg,hrow,s,hs,hls⟩;have hwf:Wf l:=by rw[hls];exact (oF s hs).1
 obtain⟨tb,cur,rfl,hno,hg1,hc⟩:=DT hrow hwf.pos;have ht1:=(hg.n.mine HT.out HM.out.1 (fun cs e=>by injection e with _ e;exact absurd e (by decide))).1;have HT1:=hid ht1;have HG:=hid hg;have HS:=hid (And.intro hs hls);have HRD:=zS hwf tb c w1 ⟨cur,hg1,hc⟩;rw[HIT.out] at HRD;have HRD:=hid HRD;clear hg hrow hs hno hg1 hc ht1 HTK hwf hls;go_wp2_with fail
 refine HRD.out.mono ?_;rintro e w2⟨v,rfl,hown,hb⟩;simp only[List.length_map] at hown;obtain⟨ra,rc,hv⟩:∃ao c,v = .slice ao its.length c:=by
  obtain⟨_,⟨h1,h0⟩|⟨g,c,_,h1,_⟩⟩:=hown
  . exact⟨none,0,by rw[h1,h0]⟩
  . exact⟨_,_,h1⟩
 subst hv;have HO:=hid hown;have HB2:=hid hb;obtain⟨z,hz⟩:∃z,cU fl = .int .i64 z:=by cases fl <;> exact⟨_,rfl⟩
 have HZ:=hid hz;rw[hz];have hR:=below_heap hb (aB HT1.out) HT1.out;generalize hrb:w.heap.size+1=rb at hR ⊢;have HRB:=hid hrb;have q0:w2.cell? ⟨rb,0,none⟩=some (.slice none 0 0):=aA (i:=0) hR;have q1:w2.cell? ⟨rb,1,none⟩=some (.int .i64 0):=aA (i:=1) hR;have f0:w2.frozen? ⟨rb,0,none⟩=false:=aE hR;have f1:w2.frozen? ⟨rb,1,none⟩=false:=aE hR;have HS2:=hid (aH (i:=1) (aH (i:=0) hR (.slice ra its.length rc)) (.int .i64 z));have HR:=hid hR;clear hown hb hz hR hrb;go_wp2;have y0:=aA (i:=0) HS2.out;have y1:=aA (i:=1) HS2.out;refine bodyPost_ret (v:=.agg #[.slice ra its.length rc,.int .i64 z]) (by simp[results,Tryz.results67,go_sem,y0,y1];try rfl) rfl ?_;have hrb:w.heap.size<=rb:=by have:=HRB.out;omega
 have hR:=HR.out;have hR2:=aH (i:=0) hR (.slice ra its.length rc);have hs2:=(((HG.out.s.below HB2.out).box hR hrb HM.out.2 0 (.slice ra its.length rc)).box hR2 hrb HM.out.2 1 (.int .i64 z))
 have hrow:=gW HO.out fun g hg=>(show ¬L'.own g from HG.out.s.e.lt hg)
 have hd:=hs2.done (kind:=3) (v:=.r its fl) (vs:=[.slice ra its.length rc,cU fl]) ⟨⟨rfl,s,HS.out.1,by rw[HIT2.out,HS.out.2]⟩,_,rfl,(hrow.boxR (by decide) hR 0 (.slice ra its.length rc)).boxR (by decide) hR2 1 (.int .i64 z)⟩;rw[HZ.out] at hd;exact hd
end Go.Proofs.YthibodlojlkppaaGreatDoor

import Derived.Test.YthibodlojlkppaaGreatDoorZ16
set_option linter.all false
set_option maxRecDepth 100000
set_option maxHeartbeats 40000000
namespace Go.Proofs.YthibodlojlkppaaGreatDoor
open Go.RowKit
theorem J9{a b:ByteArray}(h:a=b):Ending.returned (.string a) = .returned (.string b):=by rw[h]
end Go.Proofs.YthibodlojlkppaaGreatDoor
namespace Go.Proofs.YthibodlojlkppaaGreatDoor
open Go.RowKit
variable [DecidableEq K] [LawfulBEq Lk]
def Ex.fold{α:Type}(f1:Int->α)(f2:Bool->α)(f3:ByteArray->α)(f4:List UInt8->α->α->α)(f5:α->α->α->α):Ex->α
 | ⟨.inl n,_⟩=>f1 n
 | ⟨.inr (.inl b),_⟩=>f2 b
 | ⟨.inr (.inr (.inl t)),_⟩=>f3 t
 | ⟨.inr (.inr (.inr (.inl op))),s⟩=>f4 op (Ex.fold f1 f2 f3 f4 f5 (s false)) (Ex.fold f1 f2 f3 f4 f5 (s true))
 | ⟨.inr (.inr (.inr (.inr _))),s⟩=>f5 (Ex.fold f1 f2 f3 f4 f5 (s none)) (Ex.fold f1 f2 f3 f4 f5 (s (some false))) (Ex.fold f1 f2 f3 f4 f5 (s (some true)))
end Go.Proofs.YthibodlojlkppaaGreatDoor
namespace Go.Proofs.YthibodlojlkppaaGreatDoor
open Go.RowKit
theorem Ih(B b:Nat)(bs:List Value)(w:World)(h:wF B b bs w) :
 Calls Tryz.prog 91 #[.pointer (some ⟨b,0,none⟩)] w fun e w'=>e = .returned (.tuple #[])/\Oi B b (.pointer (some ⟨b,0,none⟩)) bs w'/\Below B w w'/\KT b w w':=by
 rcases h with h|h
 . refine (pN b w h.cell0 h.shape h.frozen0).mono ?_
   rintro e w'⟨rfl,rfl⟩;exact⟨rfl,h.used _,(Below.refl B w).setCell (p:=⟨b,0,none⟩) h.1 _,KT.setCell _ _ _ _⟩
 . refine (rJ b w h.cell0).mono ?_
   rintro e w'⟨rfl,rfl⟩;exact⟨rfl,h,Below.refl B _,KT.refl _ _⟩
theorem bF(B b:Nat)(bs:List Value)(c:Int)(w:World)(h:wF B b bs w)(hlen:bs.length+1<=140737488355328)(hBw:B<=w.heap.size) :
 Calls Tryz.prog 60 #[.pointer (some ⟨b,0,none⟩),.int .u8 c] w fun e w'=>e = .returned .nilIface/\wF B b (bs ++ [.int .u8 c]) w'/\Below B w w'/\KT b w w':=by
 obtain⟨i0,hi,hz0,hz1,hz2⟩:=info_parts CN;go_enter Tryz.func60,Tryz.ntmps60;go_wp2_with (go_at_call 91;refine (Ih B b bs _ h).mono ?_)
 rintro e w1⟨rfl,h1,hb1,hk1⟩;obtain⟨hB,v,hbk,hown,hne⟩:=h1;have hlt:=aB hbk;have c1:w1.cell? ⟨b,1,none⟩=some v:=aA hbk;go_wp2_with (at_builtin;refine wpList_append_own _ rfl _ _ 117 rfl B 5 i0 (.int .u8 0) 1 1 Tryz.underlying117 hi hz0 hz1 hz2 rfl (by decide) _ _ _ rfl (hown.alloc _) ⟨w1.heap.size,0,none⟩ 1 1 [.int .u8 c] rfl rfl ?c1 ?c2 ?c3 ?c4 ?c5 ?_)
 case c1=>exact cell_one_new _ _ _
 case c2=>intro u hu;simp at hu;subst hu;rfl
 case c3=>unfold maxLen;omega
 case c4=>omega
 case c5=>have:=hb1.size;simp;omega
 intro v' w2 hown' hgrow _;have hb2:w2.heap[b]? = some (.cells #[.pointer (some ⟨b,0,none⟩),v] 119 (0,0)):=by
  rw[hgrow.block b (by simp;omega) (fun e=>hne e.symm)];exact aC _ hbk
 have d1:w2.cell? ⟨b,1,none⟩=some v:=aA hb2;have f1:w2.frozen? ⟨b,1,none⟩=false:=aE hb2;obtain⟨g,cap,rfl⟩:∃g cap,v' = .slice (some ⟨g,0,none⟩) (bs.length+1) cap:=by
  rcases hown'.2 with ⟨_,h0⟩|⟨g,cap,cur,hv,_⟩
  . omega
  . exact⟨g,cap,hv⟩
 go_wp2;go_ret;refine⟨rfl,.inr ?_,?_,?_⟩
 . exact Lib.BuilderAt.put (T:=119) (e:=5) hB hb2 (bs':=bs ++ [.int .u8 c]) (by simpa using hown') (by decide)
 . exact ((hb1.alloc (by have:=hb1.size;omega) _).grown hgrow (by have:=hb1.size;simp;omega) (fun k hk=>(hown.lt k hk).1)).setCell (p:=⟨b,1,none⟩) hB _
 . exact ((hk1.trans hb1.size (KT.alloc b w1 _)).trans (by have:=hb1.size;simp;omega) (KT.grown (hown.alloc _) hgrow)).trans (by have:=hb1.size;have:=hgrow.size;simp at *;omega) (KT.setCell _ _ _ _)
theorem aS(B b:Nat)(bs:List Value)(s:ByteArray)(w:World)(h:wF B b bs w)(hlen:bs.length+s.size<=140737488355328)(hBw:B<=w.heap.size) :
 Calls Tryz.prog 61 #[.pointer (some ⟨b,0,none⟩),.string s] w fun e w'=>e = .returned (.tuple #[.int .i64 s.size,.nilIface])/\wF B b (bs++Lib.strCells s) w'/\Below B w w'/\KT b w w':=by
 obtain⟨i0,hi,hz0,hz1,hz2⟩:=info_parts CN;go_enter Tryz.func61,Tryz.ntmps61;go_wp2_with (go_at_call 91;refine (Ih B b bs _ h).mono ?_)
 rintro e w1⟨rfl,h1,hb1,hk1⟩;obtain⟨hB,v,hbk,hown,hne⟩:=h1;have hlt:=aB hbk;have c1:w1.cell? ⟨b,1,none⟩=some v:=aA hbk;go_wp2_with (at_builtin;refine Lib.wpList_append_own_string _ rfl _ _ 117 9 rfl B 5 i0 Tryz.underlying117 Tryz.underlying9 hi hz0 hz1 hz2 _ _ _ rfl hown s rfl ?c3 ?c4 ?c5 ?_)
 case c3=>unfold maxLen;omega
 case c4=>omega
 case c5=>have:=hb1.size;omega
 intro v' w2 hown' hgrow _;have hb2:w2.heap[b]? = some (.cells #[.pointer (some ⟨b,0,none⟩),v] 119 (0,0)):=by
  rw[hgrow.block b (by omega) (fun e=>hne e.symm)];exact hbk
 have d1:w2.cell? ⟨b,1,none⟩=some v:=aA hb2;have f1:w2.frozen? ⟨b,1,none⟩=false:=aE hb2;obtain⟨ao,cap,rfl⟩:∃ao cap,v' = .slice ao (bs.length+s.size) cap:=by
  rcases hown'.2 with ⟨hv,h0⟩|⟨g,cap,cur,hv,_⟩
  . exact⟨none,0,by rw[hv,h0]⟩
  . exact⟨_,_,hv⟩
 go_wp2;go_ret2;refine⟨rfl,.inr ?_,?_,?_⟩
 . exact Lib.BuilderAt.put (T:=119) (e:=5) hB hb2 (bs':=bs++Lib.strCells s) (by simpa[Lib.strCells_length] using hown') (by decide)
 . exact (hb1.grown hgrow (by have:=hb1.size;omega) (fun k hk=>(hown.lt k hk).1)).setCell (p:=⟨b,1,none⟩) hB _
 . exact (hk1.trans hb1.size (KT.grown hown hgrow)).trans (by have:=hb1.size;have:=hgrow.size;omega) (KT.setCell _ _ _ _)
def iM(op:List UInt8)(x y:ByteArray):ByteArray:=((⟨#[40]⟩++x)++⟨⟨op⟩⟩++y)++⟨#[41]⟩
def dM(x y z:ByteArray):ByteArray:=((((⟨#[40]⟩++x)++⟨#[63]⟩++y)++⟨#[58]⟩)++z)++⟨#[41]⟩
end Go.Proofs.YthibodlojlkppaaGreatDoor
namespace Go.Proofs.YthibodlojlkppaaGreatDoor
open Go.RowKit Go.Sort
def LU(l:List UInt8):Prop:=∀x∈l,aQ x.toNat=true
theorem fZ{c:UInt8}(h:aQ c.toNat=true):Lib.digitVal c=some (c.toNat-48):=by
 simp only[aQ,Bool.and_eq_true,decide_eq_true_eq] at h;unfold Lib.digitVal;rw[if_pos (by omega)]
theorem pU:∀(l:List UInt8) (acc n:Nat) (c:UInt8),Lib.decFrom acc l=some n->aQ c.toNat=true->Lib.decFrom acc (l ++ [c])=some (n*10+(c.toNat-48))
 | [],acc,n,c,h,hc=>by
  simp only[Lib.decFrom,Option.some.injEq] at h;subst h;simp[Lib.decFrom,fZ hc]
 | b::r,acc,n,c,h,hc=>by
  simp only[Lib.decFrom,List.cons_append] at h ⊢;cases hb:Lib.digitVal b with
  | none=>rw[hb] at h;cases h
  | some d=>rw[hb] at h;exact pU r _ n c h hc
theorem mB:∀(l:List UInt8) (acc:Nat),LU l->∃n,Lib.decFrom acc l=some n
 | [],acc,_=>⟨acc,rfl⟩
 | b::r,acc,h=>by
  obtain⟨n,hn⟩:=mB r (acc*10+(b.toNat-48)) (fun x hx=>h x (by simp[hx]));exact⟨n,by simp[Lib.decFrom,fZ (h b (by simp)),hn]⟩
theorem vK:∀(l:List UInt8) (acc n:Nat),Lib.decFrom acc l=some n->acc<=n
 | [],acc,n,h=>by simp only[Lib.decFrom,Option.some.injEq] at h;omega
 | b::r,acc,n,h=>by
  simp only[Lib.decFrom] at h;cases hb:Lib.digitVal b with
  | none=>rw[hb] at h;cases h
  | some d=>rw[hb] at h;have:=vK r _ n h;omega
theorem vL:∀(l:List UInt8) (n:Nat) (c:UInt8),l ≠ []->LU l->Lib.decFrom 0 l=some n->strip (l ++ [c])=if n=0 then [c] else strip l ++ [c]
 | [],_,_,h,_,_=>absurd rfl h
 | [x],n,c,_,hd,hn=>by
  have hx:=hd x (by simp);simp only[Lib.decFrom,fZ hx,Option.some.injEq] at hn;simp only[aQ,Bool.and_eq_true,decide_eq_true_eq] at hx;by_cases h48:x.toNat=48
  . rw[if_pos (by omega)];simp[strip,h48]
  . rw[if_neg (by omega)];simp[strip,h48]
 | x::y::r,n,c,_,hd,hn=>by
  have hx:=hd x (by simp);have hr:LU (y::r):=fun z hz=>hd z (by simp[hz]);by_cases h48:x.toNat=48
  . have hn2:Lib.decFrom 0 (y::r)=some n:=by
     have e:Lib.decFrom 0 (x::y::r)=Lib.decFrom (0*10+(x.toNat-48)) (y::r):=by
      conv=>lhs;unfold Lib.decFrom
      rw[fZ hx]
     rw[e,h48] at hn;exact hn
    have:=vL (y::r) n c (by simp) hr hn2
    have e1:strip (x::y::r ++ [c])=strip (y::r ++ [c]):=by simp[strip,h48]
    have e2:strip (x::y::r)=strip (y::r):=by simp[strip,h48]
    rw[e1,this,e2]
  . have hpos:n≠0:=by
     have e:Lib.decFrom 0 (x::y::r)=Lib.decFrom (0*10+(x.toNat-48)) (y::r):=by
      conv=>lhs;unfold Lib.decFrom
      rw[fZ hx]
     rw[e] at hn;have:=vK _ _ _ hn
     simp only[aQ,Bool.and_eq_true,decide_eq_true_eq] at hx;omega
    rw[if_neg hpos];simp[strip,h48]
theorem Af{c:UInt8}(h:aQ c.toNat=true):UInt8.ofNat (48+(c.toNat-48))=c:=by
 simp only[aQ,Bool.and_eq_true,decide_eq_true_eq] at h;rw[show 48+(c.toNat-48)=c.toNat from by omega];simp
theorem sK(k:Nat):∀(l:List UInt8) (n:Nat),l.length<=k->l ≠ []->LU l->Lib.decFrom 0 l=some n->Lib.decDigits n=strip l:=by
 induction k with
 | zero=>intro l n h hne;exact absurd (List.eq_nil_of_length_eq_zero (by omega)) hne
 | succ k ih=>
  intro l n hk hne hd hn;obtain⟨r,c,rfl⟩:∃r c,l=r ++ [c]:=⟨l.dropLast,l.getLast hne,(List.dropLast_concat_getLast hne).symm⟩
  have hc:=hd c (by simp);have hdr:LU r:=fun x hx=>hd x (by simp[hx]);obtain⟨m,hm⟩:=mB r 0 hdr;have e:=pU r 0 m c hm hc;rw[hn,Option.some.injEq] at e;have hc2:=hc;simp only[aQ,Bool.and_eq_true,decide_eq_true_eq] at hc2;by_cases hr:r = []
  . subst hr
    simp only[Lib.decFrom,Option.some.injEq] at hm;subst hm;rw[Lib.decDigits,dif_pos (by omega),e,Nat.zero_mul,Nat.zero_add,Af hc];rfl
  . rw[vL r m c hr hdr hm]
    by_cases hz:m=0
    . rw[if_pos hz,Lib.decDigits,dif_pos (by omega),e,hz,Nat.zero_mul,Nat.zero_add,Af hc]
    . rw[if_neg hz,Lib.decDigits,dif_neg (by omega),show n / 10=m from by omega,show n % 10=c.toNat-48 from by omega,Af hc,ih r m (by simp at hk;omega) hr hdr hm]
theorem vM{t:ByteArray}(h:iZ t=true):0<=dW t/\dW t<=9223372036854775807/\(⟨(Lib.itoa (dW t)).toArray⟩:ByteArray)=oO t:=by
 obtain⟨h1,h2,h3⟩:=Dw h;have hl:t.data.toList.length=t.size:=by simp
 have hne:t.data.toList ≠ []:=by
  intro e;rw[e] at hl;simp at hl;omega
 have hd:LU t.data.toList:=fun x hx=>h3 x hx;obtain⟨n,hn⟩:=mB t.data.toList 0 hd;have hv:dW t=(n:Int):=by
  have ha:=(Ay h).2;cases hc:t.data.toList with
  | nil=>exact absurd hc hne
  | cons x r=>
   have hx:=hd x (by rw[hc];simp);simp only[aQ,Bool.and_eq_true,decide_eq_true_eq] at hx;have n1:(x==45)=false:=by
    rw[beq_eq_false_iff_ne];rintro rfl;simp at hx
   have n2:(x==43)=false:=by
    rw[beq_eq_false_iff_ne];rintro rfl;simp at hx
   rw[hc] at ha hn;unfold Lib.atoi at ha;simp[n1,n2,Lib.decNat,hn] at ha;exact ha.symm
 have hlen:n<10 ^ 18:=by
  have:∀(l:List UInt8) (acc m:Nat),LU l->Lib.decFrom acc l=some m->m<(acc+1)*10 ^ l.length:=by
   intro l;induction l with
   | nil=>intro acc m _ h;simp only[Lib.decFrom,Option.some.injEq] at h;simp;omega
   | cons b r ih=>
    intro acc m hd h;have hb:=hd b (by simp);simp only[Lib.decFrom,fZ hb] at h;have:=ih _ m (fun x hx=>hd x (by simp[hx])) h
    simp only[aQ,Bool.and_eq_true,decide_eq_true_eq] at hb;have e:(acc*10+(b.toNat-48)+1)*10 ^ r.length<=(acc+1)*10 ^ (r.length+1):=by
     rw[Nat.pow_succ,<-Nat.mul_assoc,Nat.mul_right_comm];exact Nat.mul_le_mul_right _ (by omega)
    simp only[List.length_cons];omega
  have:=this _ 0 n hd hn
  have h9:10 ^ t.data.toList.length<=10 ^ 18:=Nat.pow_le_pow_right (by omega) (by omega);omega
 refine⟨by omega,by omega,?_⟩;unfold oO;rw[hv];have:Lib.itoa (n:Int)=Lib.decDigits n:=by
  unfold Lib.itoa;rw[if_neg (by omega)];simp
 rw[this,sK _ _ n (Nat.le_refl _) hne hd hn]
theorem PT.on{B:Nat}{w w':World}(h:PT B w)(hb:Below B w w'):PT B w':=Lib.TabBelow.on h hb
theorem bZ.byte{B b:Nat}{bs:List Value}{c:UInt8}{w w':World}(h:wF B b (bs ++ [.int .u8 c.toNat]) w'/\Below B w w'/\KT b w w'):bZ B b bs ⟨#[c]⟩ w w':=⟨by simpa[Lib.strCells,Lib.byteCells] using h.1,h.2.1,h.2.2⟩
theorem C3(n:Int)(w:World):(method 414 197 (.int .i64 n) "almanac/lang.write").run Tryz.prog w = .ok (247,(.int .i64 n)) w:=by kernel_rfl
theorem E6(args:Array Value)(w:World):(callFunc 247 args).run Tryz.prog w = .ok (.enter 247 args) w:=by kernel_rfl
theorem E7(n:Bool)(w:World):(method 414 290 (.bool n) "almanac/lang.write").run Tryz.prog w = .ok (260,(.bool n)) w:=by kernel_rfl
theorem Ii(args:Array Value)(w:World):(callFunc 260 args).run Tryz.prog w = .ok (.enter 260 args) w:=by kernel_rfl
theorem Ij(n:ByteArray)(w:World):(method 414 291 (.string n) "almanac/lang.write").run Tryz.prog w = .ok (264,(.string n)) w:=by kernel_rfl
theorem Ka(args:Array Value)(w:World):(callFunc 264 args).run Tryz.prog w = .ok (.enter 264 args) w:=by kernel_rfl
theorem Ik(n:Value)(w:World):(method 414 271 n "almanac/lang.write").run Tryz.prog w = .ok (253,n) w:=by kernel_rfl
theorem Kb(args:Array Value)(w:World):(callFunc 253 args).run Tryz.prog w = .ok (.enter 253 args) w:=by kernel_rfl
theorem C4(n:Value)(w:World):(method 414 293 n "almanac/lang.write").run Tryz.prog w = .ok (268,n) w:=by kernel_rfl
theorem E8(args:Array Value)(w:World):(callFunc 268 args).run Tryz.prog w = .ok (.enter 268 args) w:=by kernel_rfl
theorem xC{t:ByteArray}(ht:iZ t=true):gZ (.iface 197 (.int .i64 (dW t))) (oO t):=by
 obtain⟨h0,h1,he⟩:=vM ht;refine⟨_,_,_,_,rfl,C3 _,E6,by kernel_rfl,fun B b bs w hb hl hB hp=>?_⟩;have HB:=hid hb;have HP:=hid hp;have HE:=hid he;have HL:=hid hl;generalize dW t=z at h0 h1 HE ⊢;clear hb hp he hl ht;go_enter Tryz.func247,Tryz.ntmps247;go_wp2_with fail
 refine (Tryz.strconv_FormatInt_10 z (by omega) h1 _ (Lib.TabBelow.here HP.out)).mono ?_;rintro e w1⟨rfl,k,os,rfl⟩;rw[HE.out];have hg:=cH w k os;have HG:=hid hg;have HB1:=hid (HB.out.below hg);clear hg;go_wp2_with fail
 refine (aS B b bs (oO t) _ HB1.out HL.out (Nat.le_trans hB HG.out.size)).mono ?_;rintro e w2⟨rfl,h1,h2,h3⟩;have HA:=hid ((bZ.mk h1 h2 h3).from HG.out hB);clear h1 h2 h3;go_wp2;go_end0
 exact⟨⟨_,rfl⟩,HA.out⟩
theorem Ag(n:Bool):gZ (.iface 290 (.bool n)) ⟨(Lib.formatBool n).toArray⟩:=by
 refine⟨_,_,_,_,rfl,E7 _,Ii,by kernel_rfl,fun B b bs w hb hl hB hp=>?_⟩;have HB:=hid hb;have HL:=hid hl;clear hb hp hl;go_enter Tryz.func260,Tryz.ntmps260;go_wp2_with fail
 refine (Tryz.strconv_FormatBool n _).mono ?_;rintro e w1⟨rfl,rfl⟩;go_wp2_with fail
 refine (aS B b bs _ _ HB.out HL.out hB).mono ?_;rintro e w2⟨rfl,h1,h2,h3⟩;have HA:=hid (bZ.mk h1 h2 h3);clear h1 h2 h3;go_wp2;go_end0
 exact⟨⟨_,rfl⟩,HA.out⟩
theorem BK(t:ByteArray):gZ (.iface 291 (.string t)) t:=by
 refine⟨_,_,_,_,rfl,Ij _,Ka,by kernel_rfl,fun B b bs w hb hl hB hp=>?_⟩;have HB:=hid hb;have HL:=hid hl;clear hb hp hl;go_enter Tryz.func264,Tryz.ntmps264;go_wp2_with fail
 refine (aS B b bs _ _ HB.out HL.out hB).mono ?_;rintro e w2⟨rfl,h1,h2,h3⟩;have HA:=hid (bZ.mk h1 h2 h3);clear h1 h2 h3;go_wp2;go_end0
 exact⟨⟨_,rfl⟩,HA.out⟩
theorem BL{op:List UInt8}{l r:Value}{s1 s2:ByteArray}(hl:gZ l s1)(hr:gZ r s2):gZ (lP ⟨⟨op⟩⟩ l r) (iM op s1 s2):=by
 obtain⟨T1,v1,u1,F1,rfl,m1,e1,_,c1⟩:=hl;obtain⟨T2,v2,u2,F2,rfl,m2,e2,_,c2⟩:=hr;have HC1:=hid c1;have HC2:=hid c2;clear c1 c2;refine⟨_,_,_,_,rfl,Ik _,Kb,by kernel_rfl,fun B b bs w hb hl hB hp=>?_⟩;have hbl:=cG w (.cells #[.string ⟨⟨op⟩⟩,.iface T1 v1,.iface T2 v2] 271);have HB:=hid (hb.below hbl);have HBL:=hid hbl;have HP:=hid (hp.on (cO hB hbl));have HN:=hid (aI w (.cells #[.string ⟨⟨op⟩⟩,.iface T1 v1,.iface T2 v2] 271));have hne:w.heap.size≠b:=Nat.ne_of_gt hb.lt;have hB1:B<=(w.alloc (.cells #[.string ⟨⟨op⟩⟩,.iface T1 v1,.iface T2 v2] 271)).heap.size:=by simp;omega
 have HB1:=hid hB1;have HLN:=hid hl;clear hb hp hbl hB1 hl;go_enter Tryz.func253,Tryz.ntmps253;go_wp2_with fail
 refine (bF B b bs 40 _ HB.out (by have:=HLN.out;simp only[iM,dM,List.length_append,Lib.strCells_length,ByteArray.size_append,dT,jC,iP,List.length_cons,List.length_nil] at *;omega) HB1.out).mono ?_;rintro e w1⟨rfl,hadd⟩;have hadd:=bZ.byte (c:=40) hadd;have HA1:=hid hadd;have hk:=HA1.out.kt.get HN.out hne (by decide);have k1_0:World.cell? _ ⟨w.heap.size,0,none⟩=some (.string ⟨⟨op⟩⟩):=aA (i:=0) hk;have k1_1:World.cell? _ ⟨w.heap.size,1,none⟩=some (.iface T1 v1):=aA (i:=1) hk;have k1_2:World.cell? _ ⟨w.heap.size,2,none⟩=some (.iface T2 v2):=aA (i:=2) hk;clear hk hadd;go_wp2_with fail
 refine (HC1.out B b (bs++Lib.strCells (⟨#[40]⟩)) _ HA1.out.bd (by have:=HLN.out;simp only[iM,dM,List.length_append,Lib.strCells_length,ByteArray.size_append,dT,jC,iP,List.length_cons,List.length_nil] at *;omega) (Nat.le_trans HB1.out HA1.out.bl.size) (HP.out.on HA1.out.bl)).mono ?_;rintro e w2⟨⟨rv2,rfl⟩,hadd⟩;have HA2:=hid (HA1.out.trans hadd);have hk:=HA2.out.kt.get HN.out hne (by decide);have k2_0:World.cell? _ ⟨w.heap.size,0,none⟩=some (.string ⟨⟨op⟩⟩):=aA (i:=0) hk;have k2_1:World.cell? _ ⟨w.heap.size,1,none⟩=some (.iface T1 v1):=aA (i:=1) hk;have k2_2:World.cell? _ ⟨w.heap.size,2,none⟩=some (.iface T2 v2):=aA (i:=2) hk;clear hk hadd;go_wp2_with fail
 refine (aS B b (bs++Lib.strCells (⟨#[40]⟩++s1)) ⟨⟨op⟩⟩ _ HA2.out.bd (by have:=HLN.out;simp only[iM,dM,List.length_append,Lib.strCells_length,ByteArray.size_append,dT,jC,iP,List.length_cons,List.length_nil] at *;omega) (Nat.le_trans HB1.out HA2.out.bl.size)).mono ?_;rintro e w3⟨rfl,hadd1,hadd2,hadd3⟩;have hadd:=bZ.mk hadd1 hadd2 hadd3;clear hadd1 hadd2 hadd3;have HA3:=hid (HA2.out.trans hadd);have hk:=HA3.out.kt.get HN.out hne (by decide);have k3_0:World.cell? _ ⟨w.heap.size,0,none⟩=some (.string ⟨⟨op⟩⟩):=aA (i:=0) hk;have k3_1:World.cell? _ ⟨w.heap.size,1,none⟩=some (.iface T1 v1):=aA (i:=1) hk;have k3_2:World.cell? _ ⟨w.heap.size,2,none⟩=some (.iface T2 v2):=aA (i:=2) hk;clear hk hadd;go_wp2_with fail
 refine (HC2.out B b (bs++Lib.strCells (⟨#[40]⟩++s1++⟨⟨op⟩⟩)) _ HA3.out.bd (by have:=HLN.out;simp only[iM,dM,List.length_append,Lib.strCells_length,ByteArray.size_append,dT,jC,iP,List.length_cons,List.length_nil] at *;omega) (Nat.le_trans HB1.out HA3.out.bl.size) (HP.out.on HA3.out.bl)).mono ?_;rintro e w4⟨⟨rv4,rfl⟩,hadd⟩;have HA4:=hid (HA3.out.trans hadd);have hk:=HA4.out.kt.get HN.out hne (by decide);have k4_0:World.cell? _ ⟨w.heap.size,0,none⟩=some (.string ⟨⟨op⟩⟩):=aA (i:=0) hk;have k4_1:World.cell? _ ⟨w.heap.size,1,none⟩=some (.iface T1 v1):=aA (i:=1) hk;have k4_2:World.cell? _ ⟨w.heap.size,2,none⟩=some (.iface T2 v2):=aA (i:=2) hk;clear hk hadd;go_wp2_with fail
 refine (bF B b (bs++Lib.strCells (⟨#[40]⟩++s1++⟨⟨op⟩⟩++s2)) 41 _ HA4.out.bd (by have:=HLN.out;simp only[iM,dM,List.length_append,Lib.strCells_length,ByteArray.size_append,dT,jC,iP,List.length_cons,List.length_nil] at *;omega) (Nat.le_trans HB1.out HA4.out.bl.size)).mono ?_;rintro e w5⟨rfl,hadd⟩;have hadd:=bZ.byte (c:=41) hadd;have HA5:=hid (HA4.out.trans hadd);have hk:=HA5.out.kt.get HN.out hne (by decide);have k5_0:World.cell? _ ⟨w.heap.size,0,none⟩=some (.string ⟨⟨op⟩⟩):=aA (i:=0) hk;have k5_1:World.cell? _ ⟨w.heap.size,1,none⟩=some (.iface T1 v1):=aA (i:=1) hk;have k5_2:World.cell? _ ⟨w.heap.size,2,none⟩=some (.iface T2 v2):=aA (i:=2) hk;clear hk hadd;go_wp2;go_end0
 exact⟨⟨_,rfl⟩,HA5.out.from HBL.out hB⟩
theorem xD{x y z:Value}{s1 s2 s3:ByteArray}(hx:gZ x s1)(hy:gZ y s2)(hz:gZ z s3):gZ (iF x y z) (dM s1 s2 s3):=by
 obtain⟨T1,v1,u1,F1,rfl,m1,e1,_,c1⟩:=hx;obtain⟨T2,v2,u2,F2,rfl,m2,e2,_,c2⟩:=hy;obtain⟨T3,v3,u3,F3,rfl,m3,e3,_,c3⟩:=hz;have HC1:=hid c1;have HC2:=hid c2;have HC3:=hid c3;clear c1 c2 c3;refine⟨_,_,_,_,rfl,C4 _,E8,by kernel_rfl,fun B b bs w hb hl hB hp=>?_⟩;have hbl:=cG w (.cells #[.iface T1 v1,.iface T2 v2,.iface T3 v3] 293);have HB:=hid (hb.below hbl);have HBL:=hid hbl;have HP:=hid (hp.on (cO hB hbl));have HN:=hid (aI w (.cells #[.iface T1 v1,.iface T2 v2,.iface T3 v3] 293));have hne:w.heap.size≠b:=Nat.ne_of_gt hb.lt;have hB1:B<=(w.alloc (.cells #[.iface T1 v1,.iface T2 v2,.iface T3 v3] 293)).heap.size:=by simp;omega
 have HB1:=hid hB1;have HLN:=hid hl;clear hb hp hbl hB1 hl;go_enter Tryz.func268,Tryz.ntmps268;go_wp2_with fail
 refine (bF B b bs 40 _ HB.out (by have:=HLN.out;simp only[iM,dM,List.length_append,Lib.strCells_length,ByteArray.size_append,dT,jC,iP,List.length_cons,List.length_nil] at *;omega) HB1.out).mono ?_;rintro e w1⟨rfl,hadd⟩;have hadd:=bZ.byte (c:=40) hadd;have HA1:=hid hadd;have hk:=HA1.out.kt.get HN.out hne (by decide);have k1_0:World.cell? _ ⟨w.heap.size,0,none⟩=some (.iface T1 v1):=aA (i:=0) hk;have k1_1:World.cell? _ ⟨w.heap.size,1,none⟩=some (.iface T2 v2):=aA (i:=1) hk;have k1_2:World.cell? _ ⟨w.heap.size,2,none⟩=some (.iface T3 v3):=aA (i:=2) hk;clear hk hadd;go_wp2_with fail
 refine (HC1.out B b (bs++Lib.strCells (⟨#[40]⟩)) _ HA1.out.bd (by have:=HLN.out;simp only[iM,dM,List.length_append,Lib.strCells_length,ByteArray.size_append,dT,jC,iP,List.length_cons,List.length_nil] at *;omega) (Nat.le_trans HB1.out HA1.out.bl.size) (HP.out.on HA1.out.bl)).mono ?_;rintro e w2⟨⟨rv2,rfl⟩,hadd⟩;have HA2:=hid (HA1.out.trans hadd);have hk:=HA2.out.kt.get HN.out hne (by decide);have k2_0:World.cell? _ ⟨w.heap.size,0,none⟩=some (.iface T1 v1):=aA (i:=0) hk;have k2_1:World.cell? _ ⟨w.heap.size,1,none⟩=some (.iface T2 v2):=aA (i:=1) hk;have k2_2:World.cell? _ ⟨w.heap.size,2,none⟩=some (.iface T3 v3):=aA (i:=2) hk;clear hk hadd;go_wp2_with fail
 refine (bF B b (bs++Lib.strCells (⟨#[40]⟩++s1)) 63 _ HA2.out.bd (by have:=HLN.out;simp only[iM,dM,List.length_append,Lib.strCells_length,ByteArray.size_append,dT,jC,iP,List.length_cons,List.length_nil] at *;omega) (Nat.le_trans HB1.out HA2.out.bl.size)).mono ?_;rintro e w3⟨rfl,hadd⟩;have hadd:=bZ.byte (c:=63) hadd;have HA3:=hid (HA2.out.trans hadd);have hk:=HA3.out.kt.get HN.out hne (by decide);have k3_0:World.cell? _ ⟨w.heap.size,0,none⟩=some (.iface T1 v1):=aA (i:=0) hk;have k3_1:World.cell? _ ⟨w.heap.size,1,none⟩=some (.iface T2 v2):=aA (i:=1) hk;have k3_2:World.cell? _ ⟨w.heap.size,2,none⟩=some (.iface T3 v3):=aA (i:=2) hk;clear hk hadd;go_wp2_with fail
 refine (HC2.out B b (bs++Lib.strCells (⟨#[40]⟩++s1++⟨#[63]⟩)) _ HA3.out.bd (by have:=HLN.out;simp only[iM,dM,List.length_append,Lib.strCells_length,ByteArray.size_append,dT,jC,iP,List.length_cons,List.length_nil] at *;omega) (Nat.le_trans HB1.out HA3.out.bl.size) (HP.out.on HA3.out.bl)).mono ?_;rintro e w4⟨⟨rv4,rfl⟩,hadd⟩;have HA4:=hid (HA3.out.trans hadd);have hk:=HA4.out.kt.get HN.out hne (by decide);have k4_0:World.cell? _ ⟨w.heap.size,0,none⟩=some (.iface T1 v1):=aA (i:=0) hk;have k4_1:World.cell? _ ⟨w.heap.size,1,none⟩=some (.iface T2 v2):=aA (i:=1) hk;have k4_2:World.cell? _ ⟨w.heap.size,2,none⟩=some (.iface T3 v3):=aA (i:=2) hk;clear hk hadd;go_wp2_with fail
 refine (bF B b (bs++Lib.strCells (⟨#[40]⟩++s1++⟨#[63]⟩++s2)) 58 _ HA4.out.bd (by have:=HLN.out;simp only[iM,dM,List.length_append,Lib.strCells_length,ByteArray.size_append,dT,jC,iP,List.length_cons,List.length_nil] at *;omega) (Nat.le_trans HB1.out HA4.out.bl.size)).mono ?_;rintro e w5⟨rfl,hadd⟩;have hadd:=bZ.byte (c:=58) hadd;have HA5:=hid (HA4.out.trans hadd);have hk:=HA5.out.kt.get HN.out hne (by decide);have k5_0:World.cell? _ ⟨w.heap.size,0,none⟩=some (.iface T1 v1):=aA (i:=0) hk;have k5_1:World.cell? _ ⟨w.heap.size,1,none⟩=some (.iface T2 v2):=aA (i:=1) hk;have k5_2:World.cell? _ ⟨w.heap.size,2,none⟩=some (.iface T3 v3):=aA (i:=2) hk;clear hk hadd;go_wp2_with fail
 refine (HC3.out B b (bs++Lib.strCells (⟨#[40]⟩++s1++⟨#[63]⟩++s2++⟨#[58]⟩)) _ HA5.out.bd (by have:=HLN.out;simp only[iM,dM,List.length_append,Lib.strCells_length,ByteArray.size_append,dT,jC,iP,List.length_cons,List.length_nil] at *;omega) (Nat.le_trans HB1.out HA5.out.bl.size) (HP.out.on HA5.out.bl)).mono ?_;rintro e w6⟨⟨rv6,rfl⟩,hadd⟩;have HA6:=hid (HA5.out.trans hadd);have hk:=HA6.out.kt.get HN.out hne (by decide);have k6_0:World.cell? _ ⟨w.heap.size,0,none⟩=some (.iface T1 v1):=aA (i:=0) hk;have k6_1:World.cell? _ ⟨w.heap.size,1,none⟩=some (.iface T2 v2):=aA (i:=1) hk;have k6_2:World.cell? _ ⟨w.heap.size,2,none⟩=some (.iface T3 v3):=aA (i:=2) hk;clear hk hadd;go_wp2_with fail
 refine (bF B b (bs++Lib.strCells (⟨#[40]⟩++s1++⟨#[63]⟩++s2++⟨#[58]⟩++s3)) 41 _ HA6.out.bd (by have:=HLN.out;simp only[iM,dM,List.length_append,Lib.strCells_length,ByteArray.size_append,dT,jC,iP,List.length_cons,List.length_nil] at *;omega) (Nat.le_trans HB1.out HA6.out.bl.size)).mono ?_;rintro e w7⟨rfl,hadd⟩;have hadd:=bZ.byte (c:=41) hadd;have HA7:=hid (HA6.out.trans hadd);have hk:=HA7.out.kt.get HN.out hne (by decide);have k7_0:World.cell? _ ⟨w.heap.size,0,none⟩=some (.iface T1 v1):=aA (i:=0) hk;have k7_1:World.cell? _ ⟨w.heap.size,1,none⟩=some (.iface T2 v2):=aA (i:=1) hk;have k7_2:World.cell? _ ⟨w.heap.size,2,none⟩=some (.iface T3 v3):=aA (i:=2) hk;clear hk hadd;go_wp2;go_end0
 exact⟨⟨_,rfl⟩,HA7.out.from HBL.out hB⟩
end Go.Proofs.YthibodlojlkppaaGreatDoor
namespace Go.Proofs.YthibodlojlkppaaGreatDoor
open Go.RowKit
theorem x9:∀l:List UInt8,(strip l).length<=l.length
 | []=>Nat.le_refl _
 | [_]=>Nat.le_refl _
 | c::d::r=>by
  unfold strip;split
  . have:=x9 (d::r);simp at *;omega
  . exact Nat.le_refl _
theorem BM(t:ByteArray)(ht:t.size<=400):(yV t).size<=400:=by
 unfold yV;split
 . have:=x9 t.data.toList
   have e:(oO t).size=(strip t.data.toList).length:=by unfold oO;exact dT _
   have e2:t.data.toList.length=t.size:=by simp
   omega
 . exact ht
theorem C5(op:List UInt8)(x y:ByteArray):(iM op x y).size=x.size+y.size+op.length+2:=by
 simp only[iM,ByteArray.size_append,dT,List.length_cons,List.length_nil];omega
theorem Ah(x y z:ByteArray):(dM x y z).size=x.size+y.size+z.size+4:=by
 simp only[dM,ByteArray.size_append,jC,dT,List.length_cons,List.length_nil];omega
end Go.Proofs.YthibodlojlkppaaGreatDoor
namespace Go.Proofs.YthibodlojlkppaaGreatDoor
open Go.RowKit Go.Sort
theorem E9(num:Nat)(hnum:num<=1000)(nm ty:ByteArray)(B b:Nat)(bs:List Value)(w:World)(hb:wF B b bs w)(hl:bs.length+(dV (cK num) ⟨#[58,117,115,101,32]⟩ nm).size<=iP)(hB:B<=w.heap.size)(hp:PT B w) :
 Calls Tryz.prog 66 #[.agg #[.int .i64 0,.int .i64 (num:Nat),.string nm,.string ty,.nilIface],.pointer (some ⟨b,0,none⟩)] w fun e w'=>(∃r,e = .returned r)/\bZ B b bs (dV (cK num) ⟨#[58,117,115,101,32]⟩ nm) w w':=by
 have hbl:=cG w (.cells #[.int .i64 0,.int .i64 (num:Nat),.string nm,.string ty,.nilIface] 137);have HB:=hid (hb.below hbl);have HBL:=hid hbl;have HP:=hid (hp.on (cO hB hbl));have HN:=hid (aI w (.cells #[.int .i64 0,.int .i64 (num:Nat),.string nm,.string ty,.nilIface] 137));have hne:w.heap.size≠b:=Nat.ne_of_gt hb.lt;have hB1:B<=(w.alloc (.cells #[.int .i64 0,.int .i64 (num:Nat),.string nm,.string ty,.nilIface] 137)).heap.size:=by simp;omega
 have HB1:=hid hB1;have HLN:=hid hl;clear hb hp hbl hB1 hl;go_enter Tryz.func66,Tryz.ntmps66;go_wp2_with fail
 refine (Tryz.strconv_Itoa (num:Int) (by omega) (by omega) _ (Lib.TabBelow.here HP.out)).mono ?_;rintro e w0⟨rfl,kk,os,hw0⟩;rw[fM];have hg:Below (w.alloc (.cells #[.int .i64 0,.int .i64 (num:Nat),.string nm,.string ty,.nilIface] 137)).heap.size (w.alloc (.cells #[.int .i64 0,.int .i64 (num:Nat),.string nm,.string ty,.nilIface] 137)) w0:=by rw[hw0];exact cH _ _ _
 have HG:=hid hg;have HB0:=hid (HB.out.below hg);have HP0:=hid (HP.out.on (cO HB1.out hg));have HN0:=hid (below_heap hg (aB HN.out) HN.out);have HS0:=hid (Nat.le_trans HB1.out hg.size);clear hw0 hg;go_wp2_with fail
 refine (aS B b bs (cK num) _ HB0.out (by have:=HLN.out;simp only[dV,dH,List.length_append,Lib.strCells_length,ByteArray.size_append,dT,jC,iP,List.length_cons,List.length_nil] at *;omega) HS0.out).mono ?_;rintro e w1⟨rfl,hadd1,hadd2,hadd3⟩;have hadd:=bZ.mk hadd1 hadd2 hadd3;clear hadd1 hadd2 hadd3;have HA1:=hid hadd;have hk:=HA1.out.kt.get HN0.out hne (by decide);have k1_0:World.cell? _ ⟨w.heap.size,0,none⟩=some (.int .i64 0):=aA (i:=0) hk;have k1_1:World.cell? _ ⟨w.heap.size,1,none⟩=some (.int .i64 (num:Nat)):=aA (i:=1) hk;have k1_2:World.cell? _ ⟨w.heap.size,2,none⟩=some (.string nm):=aA (i:=2) hk;have k1_3:World.cell? _ ⟨w.heap.size,3,none⟩=some (.string ty):=aA (i:=3) hk;have k1_4:World.cell? _ ⟨w.heap.size,4,none⟩=some (.nilIface):=aA (i:=4) hk;clear hk hadd;go_wp2_with fail
 refine (aS B b (bs++Lib.strCells ((cK num))) ⟨#[58,117,115,101,32]⟩ _ HA1.out.bd (by have:=HLN.out;simp only[dV,dH,List.length_append,Lib.strCells_length,ByteArray.size_append,dT,jC,iP,List.length_cons,List.length_nil] at *;omega) (Nat.le_trans HS0.out HA1.out.bl.size)).mono ?_;rintro e w2⟨rfl,hadd1,hadd2,hadd3⟩;have hadd:=bZ.mk hadd1 hadd2 hadd3;clear hadd1 hadd2 hadd3;have HA2:=hid (HA1.out.trans hadd);have hk:=HA2.out.kt.get HN0.out hne (by decide);have k2_0:World.cell? _ ⟨w.heap.size,0,none⟩=some (.int .i64 0):=aA (i:=0) hk;have k2_1:World.cell? _ ⟨w.heap.size,1,none⟩=some (.int .i64 (num:Nat)):=aA (i:=1) hk;have k2_2:World.cell? _ ⟨w.heap.size,2,none⟩=some (.string nm):=aA (i:=2) hk;have k2_3:World.cell? _ ⟨w.heap.size,3,none⟩=some (.string ty):=aA (i:=3) hk;have k2_4:World.cell? _ ⟨w.heap.size,4,none⟩=some (.nilIface):=aA (i:=4) hk;clear hk hadd;go_wp2_with fail
 refine (aS B b (bs++Lib.strCells ((cK num)++⟨#[58,117,115,101,32]⟩)) nm _ HA2.out.bd (by have:=HLN.out;simp only[dV,dH,List.length_append,Lib.strCells_length,ByteArray.size_append,dT,jC,iP,List.length_cons,List.length_nil] at *;omega) (Nat.le_trans HS0.out HA2.out.bl.size)).mono ?_;rintro e w3⟨rfl,hadd1,hadd2,hadd3⟩;have hadd:=bZ.mk hadd1 hadd2 hadd3;clear hadd1 hadd2 hadd3;have HA3:=hid (HA2.out.trans hadd);have hk:=HA3.out.kt.get HN0.out hne (by decide);have k3_0:World.cell? _ ⟨w.heap.size,0,none⟩=some (.int .i64 0):=aA (i:=0) hk;have k3_1:World.cell? _ ⟨w.heap.size,1,none⟩=some (.int .i64 (num:Nat)):=aA (i:=1) hk;have k3_2:World.cell? _ ⟨w.heap.size,2,none⟩=some (.string nm):=aA (i:=2) hk;have k3_3:World.cell? _ ⟨w.heap.size,3,none⟩=some (.string ty):=aA (i:=3) hk;have k3_4:World.cell? _ ⟨w.heap.size,4,none⟩=some (.nilIface):=aA (i:=4) hk;clear hk hadd;go_wp2_with fail
 refine (bF B b (bs++Lib.strCells ((cK num)++⟨#[58,117,115,101,32]⟩++nm)) 10 _ HA3.out.bd (by have:=HLN.out;simp only[dV,dH,List.length_append,Lib.strCells_length,ByteArray.size_append,dT,jC,iP,List.length_cons,List.length_nil] at *;omega) (Nat.le_trans HS0.out HA3.out.bl.size)).mono ?_;rintro e w4⟨rfl,hadd⟩;have hadd:=bZ.byte (c:=10) hadd;have HA4:=hid (HA3.out.trans hadd);have hk:=HA4.out.kt.get HN0.out hne (by decide);have k4_0:World.cell? _ ⟨w.heap.size,0,none⟩=some (.int .i64 0):=aA (i:=0) hk;have k4_1:World.cell? _ ⟨w.heap.size,1,none⟩=some (.int .i64 (num:Nat)):=aA (i:=1) hk;have k4_2:World.cell? _ ⟨w.heap.size,2,none⟩=some (.string nm):=aA (i:=2) hk;have k4_3:World.cell? _ ⟨w.heap.size,3,none⟩=some (.string ty):=aA (i:=3) hk;have k4_4:World.cell? _ ⟨w.heap.size,4,none⟩=some (.nilIface):=aA (i:=4) hk;clear hk hadd;go_wp2;go_end0
 exact⟨⟨_,rfl⟩,(HA4.out.from HG.out HB1.out).from HBL.out hB⟩
theorem Fa(num:Nat)(hnum:num<=1000)(nm ty:ByteArray)(T1:TypeId)(v1 u1:Value)(F1:FuncId)(sx:ByteArray)(m1:∀w,(method 414 T1 v1 "almanac/lang.write").run Tryz.prog w = .ok (F1,u1) w)(e1:∀args w,(callFunc F1 args).run Tryz.prog w = .ok (.enter F1 args) w)(c1:∀(B b:Nat) (bs:List Value) (w:World),wF B b bs w->bs.length+sx.size<=iP->B<=w.heap.size->PT B w->Calls Tryz.prog F1 #[u1,.pointer (some ⟨b,0,none⟩)] w fun e w'=>(∃r,e = .returned r)/\bZ B b bs sx w w')(B b:Nat)(bs:List Value)(w:World)(hb:wF B b bs w)(hl:bs.length+(dH (cK num) ⟨#[58,108,101,116,32]⟩ nm ty sx).size<=iP)(hB:B<=w.heap.size)(hp:PT B w) :
 Calls Tryz.prog 66 #[.agg #[.int .i64 1,.int .i64 (num:Nat),.string nm,.string ty,.iface T1 v1],.pointer (some ⟨b,0,none⟩)] w fun e w'=>(∃r,e = .returned r)/\bZ B b bs (dH (cK num) ⟨#[58,108,101,116,32]⟩ nm ty sx) w w':=by
 have HC1:=hid c1;clear c1;have hbl:=cG w (.cells #[.int .i64 1,.int .i64 (num:Nat),.string nm,.string ty,.iface T1 v1] 137);have HB:=hid (hb.below hbl);have HBL:=hid hbl;have HP:=hid (hp.on (cO hB hbl));have HN:=hid (aI w (.cells #[.int .i64 1,.int .i64 (num:Nat),.string nm,.string ty,.iface T1 v1] 137));have hne:w.heap.size≠b:=Nat.ne_of_gt hb.lt;have hB1:B<=(w.alloc (.cells #[.int .i64 1,.int .i64 (num:Nat),.string nm,.string ty,.iface T1 v1] 137)).heap.size:=by simp;omega
 have HB1:=hid hB1;have HLN:=hid hl;clear hb hp hbl hB1 hl;go_enter Tryz.func66,Tryz.ntmps66;go_wp2_with fail
 refine (Tryz.strconv_Itoa (num:Int) (by omega) (by omega) _ (Lib.TabBelow.here HP.out)).mono ?_;rintro e w0⟨rfl,kk,os,hw0⟩;rw[fM];have hg:Below (w.alloc (.cells #[.int .i64 1,.int .i64 (num:Nat),.string nm,.string ty,.iface T1 v1] 137)).heap.size (w.alloc (.cells #[.int .i64 1,.int .i64 (num:Nat),.string nm,.string ty,.iface T1 v1] 137)) w0:=by rw[hw0];exact cH _ _ _
 have HG:=hid hg;have HB0:=hid (HB.out.below hg);have HP0:=hid (HP.out.on (cO HB1.out hg));have HN0:=hid (below_heap hg (aB HN.out) HN.out);have HS0:=hid (Nat.le_trans HB1.out hg.size);clear hw0 hg;go_wp2_with fail
 refine (aS B b bs (cK num) _ HB0.out (by have:=HLN.out;simp only[dV,dH,List.length_append,Lib.strCells_length,ByteArray.size_append,dT,jC,iP,List.length_cons,List.length_nil] at *;omega) HS0.out).mono ?_;rintro e w1⟨rfl,hadd1,hadd2,hadd3⟩;have hadd:=bZ.mk hadd1 hadd2 hadd3;clear hadd1 hadd2 hadd3;have HA1:=hid hadd;have hk:=HA1.out.kt.get HN0.out hne (by decide);have k1_0:World.cell? _ ⟨w.heap.size,0,none⟩=some (.int .i64 1):=aA (i:=0) hk;have k1_1:World.cell? _ ⟨w.heap.size,1,none⟩=some (.int .i64 (num:Nat)):=aA (i:=1) hk;have k1_2:World.cell? _ ⟨w.heap.size,2,none⟩=some (.string nm):=aA (i:=2) hk;have k1_3:World.cell? _ ⟨w.heap.size,3,none⟩=some (.string ty):=aA (i:=3) hk;have k1_4:World.cell? _ ⟨w.heap.size,4,none⟩=some (.iface T1 v1):=aA (i:=4) hk;clear hk hadd;go_wp2_with fail
 refine (aS B b (bs++Lib.strCells ((cK num))) ⟨#[58,108,101,116,32]⟩ _ HA1.out.bd (by have:=HLN.out;simp only[dV,dH,List.length_append,Lib.strCells_length,ByteArray.size_append,dT,jC,iP,List.length_cons,List.length_nil] at *;omega) (Nat.le_trans HS0.out HA1.out.bl.size)).mono ?_;rintro e w2⟨rfl,hadd1,hadd2,hadd3⟩;have hadd:=bZ.mk hadd1 hadd2 hadd3;clear hadd1 hadd2 hadd3;have HA2:=hid (HA1.out.trans hadd);have hk:=HA2.out.kt.get HN0.out hne (by decide);have k2_0:World.cell? _ ⟨w.heap.size,0,none⟩=some (.int .i64 1):=aA (i:=0) hk;have k2_1:World.cell? _ ⟨w.heap.size,1,none⟩=some (.int .i64 (num:Nat)):=aA (i:=1) hk;have k2_2:World.cell? _ ⟨w.heap.size,2,none⟩=some (.string nm):=aA (i:=2) hk;have k2_3:World.cell? _ ⟨w.heap.size,3,none⟩=some (.string ty):=aA (i:=3) hk;have k2_4:World.cell? _ ⟨w.heap.size,4,none⟩=some (.iface T1 v1):=aA (i:=4) hk;clear hk hadd;go_wp2_with fail
 refine (aS B b (bs++Lib.strCells ((cK num)++⟨#[58,108,101,116,32]⟩)) nm _ HA2.out.bd (by have:=HLN.out;simp only[dV,dH,List.length_append,Lib.strCells_length,ByteArray.size_append,dT,jC,iP,List.length_cons,List.length_nil] at *;omega) (Nat.le_trans HS0.out HA2.out.bl.size)).mono ?_;rintro e w3⟨rfl,hadd1,hadd2,hadd3⟩;have hadd:=bZ.mk hadd1 hadd2 hadd3;clear hadd1 hadd2 hadd3;have HA3:=hid (HA2.out.trans hadd);have hk:=HA3.out.kt.get HN0.out hne (by decide);have k3_0:World.cell? _ ⟨w.heap.size,0,none⟩=some (.int .i64 1):=aA (i:=0) hk;have k3_1:World.cell? _ ⟨w.heap.size,1,none⟩=some (.int .i64 (num:Nat)):=aA (i:=1) hk;have k3_2:World.cell? _ ⟨w.heap.size,2,none⟩=some (.string nm):=aA (i:=2) hk;have k3_3:World.cell? _ ⟨w.heap.size,3,none⟩=some (.string ty):=aA (i:=3) hk;have k3_4:World.cell? _ ⟨w.heap.size,4,none⟩=some (.iface T1 v1):=aA (i:=4) hk;clear hk hadd;go_wp2_with fail
 refine (bF B b (bs++Lib.strCells ((cK num)++⟨#[58,108,101,116,32]⟩++nm)) 58 _ HA3.out.bd (by have:=HLN.out;simp only[dV,dH,List.length_append,Lib.strCells_length,ByteArray.size_append,dT,jC,iP,List.length_cons,List.length_nil] at *;omega) (Nat.le_trans HS0.out HA3.out.bl.size)).mono ?_;rintro e w4⟨rfl,hadd⟩;have hadd:=bZ.byte (c:=58) hadd;have HA4:=hid (HA3.out.trans hadd);have hk:=HA4.out.kt.get HN0.out hne (by decide);have k4_0:World.cell? _ ⟨w.heap.size,0,none⟩=some (.int .i64 1):=aA (i:=0) hk;have k4_1:World.cell? _ ⟨w.heap.size,1,none⟩=some (.int .i64 (num:Nat)):=aA (i:=1) hk;have k4_2:World.cell? _ ⟨w.heap.size,2,none⟩=some (.string nm):=aA (i:=2) hk;have k4_3:World.cell? _ ⟨w.heap.size,3,none⟩=some (.string ty):=aA (i:=3) hk;have k4_4:World.cell? _ ⟨w.heap.size,4,none⟩=some (.iface T1 v1):=aA (i:=4) hk;clear hk hadd;go_wp2_with fail
 refine (aS B b (bs++Lib.strCells ((cK num)++⟨#[58,108,101,116,32]⟩++nm++⟨#[58]⟩)) ty _ HA4.out.bd (by have:=HLN.out;simp only[dV,dH,List.length_append,Lib.strCells_length,ByteArray.size_append,dT,jC,iP,List.length_cons,List.length_nil] at *;omega) (Nat.le_trans HS0.out HA4.out.bl.size)).mono ?_;rintro e w5⟨rfl,hadd1,hadd2,hadd3⟩;have hadd:=bZ.mk hadd1 hadd2 hadd3;clear hadd1 hadd2 hadd3;have HA5:=hid (HA4.out.trans hadd);have hk:=HA5.out.kt.get HN0.out hne (by decide);have k5_0:World.cell? _ ⟨w.heap.size,0,none⟩=some (.int .i64 1):=aA (i:=0) hk;have k5_1:World.cell? _ ⟨w.heap.size,1,none⟩=some (.int .i64 (num:Nat)):=aA (i:=1) hk;have k5_2:World.cell? _ ⟨w.heap.size,2,none⟩=some (.string nm):=aA (i:=2) hk;have k5_3:World.cell? _ ⟨w.heap.size,3,none⟩=some (.string ty):=aA (i:=3) hk;have k5_4:World.cell? _ ⟨w.heap.size,4,none⟩=some (.iface T1 v1):=aA (i:=4) hk;clear hk hadd;go_wp2_with fail
 refine (bF B b (bs++Lib.strCells ((cK num)++⟨#[58,108,101,116,32]⟩++nm++⟨#[58]⟩++ty)) 61 _ HA5.out.bd (by have:=HLN.out;simp only[dV,dH,List.length_append,Lib.strCells_length,ByteArray.size_append,dT,jC,iP,List.length_cons,List.length_nil] at *;omega) (Nat.le_trans HS0.out HA5.out.bl.size)).mono ?_;rintro e w6⟨rfl,hadd⟩;have hadd:=bZ.byte (c:=61) hadd;have HA6:=hid (HA5.out.trans hadd);have hk:=HA6.out.kt.get HN0.out hne (by decide);have k6_0:World.cell? _ ⟨w.heap.size,0,none⟩=some (.int .i64 1):=aA (i:=0) hk;have k6_1:World.cell? _ ⟨w.heap.size,1,none⟩=some (.int .i64 (num:Nat)):=aA (i:=1) hk;have k6_2:World.cell? _ ⟨w.heap.size,2,none⟩=some (.string nm):=aA (i:=2) hk;have k6_3:World.cell? _ ⟨w.heap.size,3,none⟩=some (.string ty):=aA (i:=3) hk;have k6_4:World.cell? _ ⟨w.heap.size,4,none⟩=some (.iface T1 v1):=aA (i:=4) hk;clear hk hadd;go_wp2_with fail
 refine (HC1.out B b (bs++Lib.strCells ((cK num)++⟨#[58,108,101,116,32]⟩++nm++⟨#[58]⟩++ty++⟨#[61]⟩)) _ HA6.out.bd (by have:=HLN.out;simp only[dV,dH,List.length_append,Lib.strCells_length,ByteArray.size_append,dT,jC,iP,List.length_cons,List.length_nil] at *;omega) (Nat.le_trans HS0.out HA6.out.bl.size) (HP0.out.on HA6.out.bl)).mono ?_;rintro e w7⟨⟨rv7,rfl⟩,hadd⟩;have HA7:=hid (HA6.out.trans hadd);have hk:=HA7.out.kt.get HN0.out hne (by decide);have k7_0:World.cell? _ ⟨w.heap.size,0,none⟩=some (.int .i64 1):=aA (i:=0) hk;have k7_1:World.cell? _ ⟨w.heap.size,1,none⟩=some (.int .i64 (num:Nat)):=aA (i:=1) hk;have k7_2:World.cell? _ ⟨w.heap.size,2,none⟩=some (.string nm):=aA (i:=2) hk;have k7_3:World.cell? _ ⟨w.heap.size,3,none⟩=some (.string ty):=aA (i:=3) hk;have k7_4:World.cell? _ ⟨w.heap.size,4,none⟩=some (.iface T1 v1):=aA (i:=4) hk;clear hk hadd;go_wp2_with fail
 refine (bF B b (bs++Lib.strCells ((cK num)++⟨#[58,108,101,116,32]⟩++nm++⟨#[58]⟩++ty++⟨#[61]⟩++sx)) 10 _ HA7.out.bd (by have:=HLN.out;simp only[dV,dH,List.length_append,Lib.strCells_length,ByteArray.size_append,dT,jC,iP,List.length_cons,List.length_nil] at *;omega) (Nat.le_trans HS0.out HA7.out.bl.size)).mono ?_;rintro e w8⟨rfl,hadd⟩;have hadd:=bZ.byte (c:=10) hadd;have HA8:=hid (HA7.out.trans hadd);have hk:=HA8.out.kt.get HN0.out hne (by decide);have k8_0:World.cell? _ ⟨w.heap.size,0,none⟩=some (.int .i64 1):=aA (i:=0) hk;have k8_1:World.cell? _ ⟨w.heap.size,1,none⟩=some (.int .i64 (num:Nat)):=aA (i:=1) hk;have k8_2:World.cell? _ ⟨w.heap.size,2,none⟩=some (.string nm):=aA (i:=2) hk;have k8_3:World.cell? _ ⟨w.heap.size,3,none⟩=some (.string ty):=aA (i:=3) hk;have k8_4:World.cell? _ ⟨w.heap.size,4,none⟩=some (.iface T1 v1):=aA (i:=4) hk;clear hk hadd;go_wp2;go_end0
 exact⟨⟨_,rfl⟩,(HA8.out.from HG.out HB1.out).from HBL.out hB⟩
theorem Fb(num:Nat)(hnum:num<=1000)(nm ty:ByteArray)(T1:TypeId)(v1 u1:Value)(F1:FuncId)(sx:ByteArray)(m1:∀w,(method 414 T1 v1 "almanac/lang.write").run Tryz.prog w = .ok (F1,u1) w)(e1:∀args w,(callFunc F1 args).run Tryz.prog w = .ok (.enter F1 args) w)(c1:∀(B b:Nat) (bs:List Value) (w:World),wF B b bs w->bs.length+sx.size<=iP->B<=w.heap.size->PT B w->Calls Tryz.prog F1 #[u1,.pointer (some ⟨b,0,none⟩)] w fun e w'=>(∃r,e = .returned r)/\bZ B b bs sx w w')(B b:Nat)(bs:List Value)(w:World)(hb:wF B b bs w)(hl:bs.length+(dH (cK num) ⟨#[58,112,117,98,32]⟩ nm ty sx).size<=iP)(hB:B<=w.heap.size)(hp:PT B w) :
 Calls Tryz.prog 66 #[.agg #[.int .i64 2,.int .i64 (num:Nat),.string nm,.string ty,.iface T1 v1],.pointer (some ⟨b,0,none⟩)] w fun e w'=>(∃r,e = .returned r)/\bZ B b bs (dH (cK num) ⟨#[58,112,117,98,32]⟩ nm ty sx) w w':=by
 have HC1:=hid c1;clear c1;have hbl:=cG w (.cells #[.int .i64 2,.int .i64 (num:Nat),.string nm,.string ty,.iface T1 v1] 137);have HB:=hid (hb.below hbl);have HBL:=hid hbl;have HP:=hid (hp.on (cO hB hbl));have HN:=hid (aI w (.cells #[.int .i64 2,.int .i64 (num:Nat),.string nm,.string ty,.iface T1 v1] 137));have hne:w.heap.size≠b:=Nat.ne_of_gt hb.lt;have hB1:B<=(w.alloc (.cells #[.int .i64 2,.int .i64 (num:Nat),.string nm,.string ty,.iface T1 v1] 137)).heap.size:=by simp;omega
 have HB1:=hid hB1;have HLN:=hid hl;clear hb hp hbl hB1 hl;go_enter Tryz.func66,Tryz.ntmps66;go_wp2_with fail
 refine (Tryz.strconv_Itoa (num:Int) (by omega) (by omega) _ (Lib.TabBelow.here HP.out)).mono ?_;rintro e w0⟨rfl,kk,os,hw0⟩;rw[fM];have hg:Below (w.alloc (.cells #[.int .i64 2,.int .i64 (num:Nat),.string nm,.string ty,.iface T1 v1] 137)).heap.size (w.alloc (.cells #[.int .i64 2,.int .i64 (num:Nat),.string nm,.string ty,.iface T1 v1] 137)) w0:=by rw[hw0];exact cH _ _ _
 have HG:=hid hg;have HB0:=hid (HB.out.below hg);have HP0:=hid (HP.out.on (cO HB1.out hg));have HN0:=hid (below_heap hg (aB HN.out) HN.out);have HS0:=hid (Nat.le_trans HB1.out hg.size);clear hw0 hg;go_wp2_with fail
 refine (aS B b bs (cK num) _ HB0.out (by have:=HLN.out;simp only[dV,dH,List.length_append,Lib.strCells_length,ByteArray.size_append,dT,jC,iP,List.length_cons,List.length_nil] at *;omega) HS0.out).mono ?_;rintro e w1⟨rfl,hadd1,hadd2,hadd3⟩;have hadd:=bZ.mk hadd1 hadd2 hadd3;clear hadd1 hadd2 hadd3;have HA1:=hid hadd;have hk:=HA1.out.kt.get HN0.out hne (by decide);have k1_0:World.cell? _ ⟨w.heap.size,0,none⟩=some (.int .i64 2):=aA (i:=0) hk;have k1_1:World.cell? _ ⟨w.heap.size,1,none⟩=some (.int .i64 (num:Nat)):=aA (i:=1) hk;have k1_2:World.cell? _ ⟨w.heap.size,2,none⟩=some (.string nm):=aA (i:=2) hk;have k1_3:World.cell? _ ⟨w.heap.size,3,none⟩=some (.string ty):=aA (i:=3) hk;have k1_4:World.cell? _ ⟨w.heap.size,4,none⟩=some (.iface T1 v1):=aA (i:=4) hk;clear hk hadd;go_wp2_with fail
 refine (aS B b (bs++Lib.strCells ((cK num))) ⟨#[58,112,117,98,32]⟩ _ HA1.out.bd (by have:=HLN.out;simp only[dV,dH,List.length_append,Lib.strCells_length,ByteArray.size_append,dT,jC,iP,List.length_cons,List.length_nil] at *;omega) (Nat.le_trans HS0.out HA1.out.bl.size)).mono ?_;rintro e w2⟨rfl,hadd1,hadd2,hadd3⟩;have hadd:=bZ.mk hadd1 hadd2 hadd3;clear hadd1 hadd2 hadd3;have HA2:=hid (HA1.out.trans hadd);have hk:=HA2.out.kt.get HN0.out hne (by decide);have k2_0:World.cell? _ ⟨w.heap.size,0,none⟩=some (.int .i64 2):=aA (i:=0) hk;have k2_1:World.cell? _ ⟨w.heap.size,1,none⟩=some (.int .i64 (num:Nat)):=aA (i:=1) hk;have k2_2:World.cell? _ ⟨w.heap.size,2,none⟩=some (.string nm):=aA (i:=2) hk;have k2_3:World.cell? _ ⟨w.heap.size,3,none⟩=some (.string ty):=aA (i:=3) hk;have k2_4:World.cell? _ ⟨w.heap.size,4,none⟩=some (.iface T1 v1):=aA (i:=4) hk;clear hk hadd;go_wp2_with fail
 refine (aS B b (bs++Lib.strCells ((cK num)++⟨#[58,112,117,98,32]⟩)) nm _ HA2.out.bd (by have:=HLN.out;simp only[dV,dH,List.length_append,Lib.strCells_length,ByteArray.size_append,dT,jC,iP,List.length_cons,List.length_nil] at *;omega) (Nat.le_trans HS0.out HA2.out.bl.size)).mono ?_;rintro e w3⟨rfl,hadd1,hadd2,hadd3⟩;have hadd:=bZ.mk hadd1 hadd2 hadd3;clear hadd1 hadd2 hadd3;have HA3:=hid (HA2.out.trans hadd);have hk:=HA3.out.kt.get HN0.out hne (by decide);have k3_0:World.cell? _ ⟨w.heap.size,0,none⟩=some (.int .i64 2):=aA (i:=0) hk;have k3_1:World.cell? _ ⟨w.heap.size,1,none⟩=some (.int .i64 (num:Nat)):=aA (i:=1) hk;have k3_2:World.cell? _ ⟨w.heap.size,2,none⟩=some (.string nm):=aA (i:=2) hk;have k3_3:World.cell? _ ⟨w.heap.size,3,none⟩=some (.string ty):=aA (i:=3) hk;have k3_4:World.cell? _ ⟨w.heap.size,4,none⟩=some (.iface T1 v1):=aA (i:=4) hk;clear hk hadd;go_wp2_with fail
 refine (bF B b (bs++Lib.strCells ((cK num)++⟨#[58,112,117,98,32]⟩++nm)) 58 _ HA3.out.bd (by have:=HLN.out;simp only[dV,dH,List.length_append,Lib.strCells_length,ByteArray.size_append,dT,jC,iP,List.length_cons,List.length_nil] at *;omega) (Nat.le_trans HS0.out HA3.out.bl.size)).mono ?_;rintro e w4⟨rfl,hadd⟩;have hadd:=bZ.byte (c:=58) hadd;have HA4:=hid (HA3.out.trans hadd);have hk:=HA4.out.kt.get HN0.out hne (by decide);have k4_0:World.cell? _ ⟨w.heap.size,0,none⟩=some (.int .i64 2):=aA (i:=0) hk;have k4_1:World.cell? _ ⟨w.heap.size,1,none⟩=some (.int .i64 (num:Nat)):=aA (i:=1) hk;have k4_2:World.cell? _ ⟨w.heap.size,2,none⟩=some (.string nm):=aA (i:=2) hk;have k4_3:World.cell? _ ⟨w.heap.size,3,none⟩=some (.string ty):=aA (i:=3) hk;have k4_4:World.cell? _ ⟨w.heap.size,4,none⟩=some (.iface T1 v1):=aA (i:=4) hk;clear hk hadd;go_wp2_with fail
 refine (aS B b (bs++Lib.strCells ((cK num)++⟨#[58,112,117,98,32]⟩++nm++⟨#[58]⟩)) ty _ HA4.out.bd (by have:=HLN.out;simp only[dV,dH,List.length_append,Lib.strCells_length,ByteArray.size_append,dT,jC,iP,List.length_cons,List.length_nil] at *;omega) (Nat.le_trans HS0.out HA4.out.bl.size)).mono ?_;rintro e w5⟨rfl,hadd1,hadd2,hadd3⟩;have hadd:=bZ.mk hadd1 hadd2 hadd3;clear hadd1 hadd2 hadd3;have HA5:=hid (HA4.out.trans hadd);have hk:=HA5.out.kt.get HN0.out hne (by decide);have k5_0:World.cell? _ ⟨w.heap.size,0,none⟩=some (.int .i64 2):=aA (i:=0) hk;have k5_1:World.cell? _ ⟨w.heap.size,1,none⟩=some (.int .i64 (num:Nat)):=aA (i:=1) hk;have k5_2:World.cell? _ ⟨w.heap.size,2,none⟩=some (.string nm):=aA (i:=2) hk;have k5_3:World.cell? _ ⟨w.heap.size,3,none⟩=some (.string ty):=aA (i:=3) hk;have k5_4:World.cell? _ ⟨w.heap.size,4,none⟩=some (.iface T1 v1):=aA (i:=4) hk;clear hk hadd;go_wp2_with fail
 refine (bF B b (bs++Lib.strCells ((cK num)++⟨#[58,112,117,98,32]⟩++nm++⟨#[58]⟩++ty)) 61 _ HA5.out.bd (by have:=HLN.out;simp only[dV,dH,List.length_append,Lib.strCells_length,ByteArray.size_append,dT,jC,iP,List.length_cons,List.length_nil] at *;omega) (Nat.le_trans HS0.out HA5.out.bl.size)).mono ?_;rintro e w6⟨rfl,hadd⟩;have hadd:=bZ.byte (c:=61) hadd;have HA6:=hid (HA5.out.trans hadd);have hk:=HA6.out.kt.get HN0.out hne (by decide);have k6_0:World.cell? _ ⟨w.heap.size,0,none⟩=some (.int .i64 2):=aA (i:=0) hk;have k6_1:World.cell? _ ⟨w.heap.size,1,none⟩=some (.int .i64 (num:Nat)):=aA (i:=1) hk;have k6_2:World.cell? _ ⟨w.heap.size,2,none⟩=some (.string nm):=aA (i:=2) hk;have k6_3:World.cell? _ ⟨w.heap.size,3,none⟩=some (.string ty):=aA (i:=3) hk;have k6_4:World.cell? _ ⟨w.heap.size,4,none⟩=some (.iface T1 v1):=aA (i:=4) hk;clear hk hadd;go_wp2_with fail
 refine (HC1.out B b (bs++Lib.strCells ((cK num)++⟨#[58,112,117,98,32]⟩++nm++⟨#[58]⟩++ty++⟨#[61]⟩)) _ HA6.out.bd (by have:=HLN.out;simp only[dV,dH,List.length_append,Lib.strCells_length,ByteArray.size_append,dT,jC,iP,List.length_cons,List.length_nil] at *;omega) (Nat.le_trans HS0.out HA6.out.bl.size) (HP0.out.on HA6.out.bl)).mono ?_;rintro e w7⟨⟨rv7,rfl⟩,hadd⟩;have HA7:=hid (HA6.out.trans hadd);have hk:=HA7.out.kt.get HN0.out hne (by decide);have k7_0:World.cell? _ ⟨w.heap.size,0,none⟩=some (.int .i64 2):=aA (i:=0) hk;have k7_1:World.cell? _ ⟨w.heap.size,1,none⟩=some (.int .i64 (num:Nat)):=aA (i:=1) hk;have k7_2:World.cell? _ ⟨w.heap.size,2,none⟩=some (.string nm):=aA (i:=2) hk;have k7_3:World.cell? _ ⟨w.heap.size,3,none⟩=some (.string ty):=aA (i:=3) hk;have k7_4:World.cell? _ ⟨w.heap.size,4,none⟩=some (.iface T1 v1):=aA (i:=4) hk;clear hk hadd;go_wp2_with fail
 refine (bF B b (bs++Lib.strCells ((cK num)++⟨#[58,112,117,98,32]⟩++nm++⟨#[58]⟩++ty++⟨#[61]⟩++sx)) 10 _ HA7.out.bd (by have:=HLN.out;simp only[dV,dH,List.length_append,Lib.strCells_length,ByteArray.size_append,dT,jC,iP,List.length_cons,List.length_nil] at *;omega) (Nat.le_trans HS0.out HA7.out.bl.size)).mono ?_;rintro e w8⟨rfl,hadd⟩;have hadd:=bZ.byte (c:=10) hadd;have HA8:=hid (HA7.out.trans hadd);have hk:=HA8.out.kt.get HN0.out hne (by decide);have k8_0:World.cell? _ ⟨w.heap.size,0,none⟩=some (.int .i64 2):=aA (i:=0) hk;have k8_1:World.cell? _ ⟨w.heap.size,1,none⟩=some (.int .i64 (num:Nat)):=aA (i:=1) hk;have k8_2:World.cell? _ ⟨w.heap.size,2,none⟩=some (.string nm):=aA (i:=2) hk;have k8_3:World.cell? _ ⟨w.heap.size,3,none⟩=some (.string ty):=aA (i:=3) hk;have k8_4:World.cell? _ ⟨w.heap.size,4,none⟩=some (.iface T1 v1):=aA (i:=4) hk;clear hk hadd;go_wp2;go_end0
 exact⟨⟨_,rfl⟩,(HA8.out.from HG.out HB1.out).from HBL.out hB⟩
theorem kS{α:Type}(l:List α)(k:Nat)(hk:k<l.length):l.take (k+1)=l.take k ++ [l[k]]:=by
 rw[List.take_add_one,List.getElem?_eq_getElem hk];rfl
theorem Ng(i:It)(s:ByteArray)(h:LB i s)(B b:Nat)(bs:List Value)(w:World)(hb:wF B b bs w)(hl:bs.length+s.size<=iP)(hB:B<=w.heap.size)(hp:PT B w) :
 Calls Tryz.prog 66 #[N8 i,.pointer (some ⟨b,0,none⟩)] w fun e w'=>(∃r,e = .returned r)/\bZ B b bs s w w':=by
 obtain⟨hn,_,h⟩:=h;obtain⟨k,num,nm,ty,ex⟩:=i;simp only at hn h;rcases h with ⟨rfl,rfl,rfl⟩|⟨sx,⟨T,v,u,F,rfl,m,e,_,c⟩,⟨rfl,rfl⟩|⟨rfl,rfl⟩⟩
 . exact E9 num hn nm ty B b bs w hb hl hB hp
 . exact Fa num hn nm ty T v u F sx m e c B b bs w hb hl hB hp
 . exact Fb num hn nm ty T v u F sx m e c B b bs w hb hl hB hp
def yA(ss:List ByteArray):Option Nat->ByteArray
 | none=>cat ss
 | some b=>(cat ss++⟨#[33]⟩)++cK b
theorem BN:∀(ss:List ByteArray) (M:Nat) (acc:ByteArray),(∀s∈ss,s.size<=M)->(ss.foldl (· ++ ·) acc).size<=acc.size+ss.length*M
 | [],_,acc,_=>by simp
 | a::r,M,acc,h=>by
  have h1:=BN r M (acc++a) fun s hs=>h s (by simp[hs]);have h2:=h a (by simp);rw[ByteArray.size_append] at h1;simp only[List.foldl_cons,List.length_cons,Nat.add_mul];omega
theorem vN(ss:List ByteArray)(M:Nat)(h:∀s∈ss,s.size<=M):(cat ss).size<=ss.length*M:=by
 have:=BN ss M ⟨#[]⟩ h
 rw[show (⟨#[]⟩:ByteArray).size=0 from rfl,Nat.zero_add] at this;exact this
theorem C6(s:ByteArray):(⟨s.data.toList.toArray⟩:ByteArray)=s:=by simp
theorem C9(a b c:ByteArray):a++(b++c)=(a++b)++c:=by
 apply ByteArray.ext;simp[ByteArray.data_append,Array.append_assoc]
theorem mC{B b:Nat}{s:ByteArray}{w:World}(h:wF B b (Lib.strCells s) w)(hB:B<=w.heap.size) :
 Calls Tryz.prog 62 #[.pointer (some ⟨b,0,none⟩)] w fun e w'=>e = .returned (.string s)/\Below B w w':=by
 have:=Tryz.Builder_String_any B b s.data.toList w h hB
 rw[C6] at this;exact this
theorem Ai(items:List It)(ss:List ByteArray)(hlen:ss.length=items.length)(hit:∀(k:Nat) (i:It) (s:ByteArray),items[k]? = some i->ss[k]? = some s->LB i s)(hn:items.length<=401)(fl:Option Nat)(hfl:∀b,fl=some b->b<=1000)(ao:Option Addr)(c:Nat)(w:World)
 (hao:0<items.length->∃g cur,ao=some ⟨g,0,none⟩/\w.heap[g]? = some (.cells cur 137 (0,0))/\cur.toList.take (items.length*5)=items.flatMap aP) (hp:PT w.heap.size w) :
 Calls Tryz.prog 40 #[.agg #[.slice ao items.length c,cU fl]] w fun e w'=>e = .returned (.string (yA ss fl))/\Below w.heap.size w w':=by
 have k0:(w.alloc (.cells #[.slice ao items.length c,cU fl] 87)).cell? ⟨w.heap.size,0,none⟩=some (.slice ao items.length c):=aA (i:=0) (aI w _);have hsz:∀s∈ss,s.size<=200000:=fun s hs=>by
  obtain⟨k,hk,rfl⟩:=List.getElem_of_mem hs;exact (hit k (items[k]'(by omega)) _ (List.getElem?_eq_getElem _) (List.getElem?_eq_getElem hk)).2.1
 have HSZ:=hid hsz;have HIT:=hid hit;have HAO:=hid hao;have HP:=hid hp;have HFL:=hid hfl;have hw2:((w.alloc (.cells #[.slice ao items.length c,cU fl] 87)).alloc (.cells #[.pointer none,.slice none 0 0] 119)).heap[w.heap.size+1]? = some (.cells #[.pointer none,.slice none 0 0] 119):=by
  have:=aI (w.alloc (.cells #[.slice ao items.length c,cU fl] 87)) (.cells #[.pointer none,.slice none 0 0] 119)
  simpa using this
 have HW0:Hid (WT items ss ao c (cU fl) w ((w.alloc (.cells #[.slice ao items.length c,cU fl] 87)).alloc (.cells #[.pointer none,.slice none 0 0] 119)) 0):=hid
  ⟨.inl ⟨by omega,.slice none 0 0,hw2,World.ownsRow_nil _ _ _ _,by simp[Value.ownBlock]⟩,((Below.refl _ _).alloc (Nat.le_refl _) _).alloc (by simp) _,aC _ (aI _ _),by simp⟩
 clear hao hp hfl hsz hit hw2;go_enter Tryz.func40,Tryz.ntmps40;go_wp2;go_loopg [9] items.length (fun f v9 wr=>∃k,k+f=items.length/\v9 = .int .i64 (k:Nat)/\WT items ss ao c (cU fl) w wr k)
 case atStart=>exact⟨0,by omega,rfl,HW0.out⟩
 case round=>
  clear HW0 k0;obtain⟨k,hk,rfl,hwt⟩:=hrel;have HWT:=hid hwt;clear hwt;by_cases hlt:k<items.length
  . obtain⟨g,cur,rfl,hg,hc⟩:=HAO.out (by omega)
    have HG:=hid hg;have HC:=hid hc;clear hg hc;have hi:=List.getElem?_eq_getElem hlt;have hs:=List.getElem?_eq_getElem (l:=ss) (i:=k) (by omega);have HI:=hid (HIT.out k _ _ hi hs);generalize hii:items[k]=i at hi HI;generalize hss:ss[k]'(by omega)=sk at hs HI;have HTK:=hid (kS ss k (by omega));have HSK:=hid hss;obtain⟨ik,inum,inm,ity,iex⟩:=i;have z0:=HWT.out.cell HG.out HC.out hi (j:=0) rfl;have z1:=HWT.out.cell HG.out HC.out hi (j:=1) rfl;have z2:=HWT.out.cell HG.out HC.out hi (j:=2) rfl;have z3:=HWT.out.cell HG.out HC.out hi (j:=3) rfl;have z4:=HWT.out.cell HG.out HC.out hi (j:=4) rfl;rw[Nat.add_zero] at z0;have hlt2:(k:Int)<(items.length:Int):=by omega
    have hkc:(0:Int)<=(k:Int):=by omega
    clear hii hss hs hi;have hex:=HI.out.ex;simp only at hex;have HLN:Hid ((Lib.strCells (cat (ss.take k))).length+sk.size<=iP):=hid (by
     have h1:=vN (ss.take k) 200000 (fun s hs=>HSZ.out s (List.mem_of_mem_take hs));have h2:=HI.out.2.1;simp only[List.length_take] at h1;simp only[Lib.strCells_length,iP];omega)
    rcases hex with rfl|⟨T,v,rfl⟩
    all_goals
     go_wp2_with fail
     refine (Ng _ sk HI.out w.heap.size (w.heap.size+1) (Lib.strCells (cat (ss.take k))) _ (HWT.out.bd.below (cG _ _)) HLN.out (by have:=HWT.out.lt;simp;omega) (HP.out.on (HWT.out.bl.alloc (by have:=HWT.out.lt;omega) _))).mono ?_;rintro e w2⟨⟨rv,rfl⟩,hadd⟩;have HW2:=hid (HWT.out.next (by omega) HTK.out HSK.out hadd);clear hadd;go_wp2;go_roundg (items.length-(k+1))
     case rel=>exact⟨k+1,by omega,by go_num,HW2.out⟩
     case measure=>omega
  . have hke:k=items.length:=by omega
    subst hke;have HC2:=hid (show ss.take items.length=ss by rw[<-hlen,List.take_length]);have q0:wr.cell? ⟨w.heap.size,0,none⟩=some (.slice ao items.length c):=aA (i:=0) HWT.out.pr;have q1:wr.cell? ⟨w.heap.size,1,none⟩=some (cU fl):=aA (i:=1) HWT.out.pr;have hb0:=HWT.out.bd;rw[HC2.out] at hb0;have HB0:=hid hb0;have HLN:Hid ((cat ss).size<=100000000):=hid (by
     have h1:=vN ss 200000 HSZ.out;omega)
    clear hb0;cases fl with
    | none=>
     simp only[cU] at q1;go_wp2_with fail
     refine (mC HB0.out (by have:=HWT.out.lt;omega)).mono ?_;rintro e w2⟨rfl,hb2⟩;have HB2:=hid (HWT.out.bl.trans hb2);clear hb2;go_wp2;go_ret;exact⟨rfl,HB2.out⟩
    | some b=>
     have hbb:=HFL.out b rfl;simp only[cU] at q1;have hne1:((b:Int) == -1)=false:=by rw[beq_eq_false_iff_ne];omega
     go_wp2_with fail
     refine (bF w.heap.size (w.heap.size+1) _ 33 _ HB0.out (by have:=HLN.out;simp only[Lib.strCells_length];omega) (by have:=HWT.out.lt;omega)).mono ?_;rintro e w2⟨rfl,hadd⟩;have hadd:=bZ.byte (c:=33) hadd;have HA1:=hid hadd;have hk:=hadd.kt.get HWT.out.pr (by omega) (by decide);have r0:w2.cell? ⟨w.heap.size,0,none⟩=some (.slice ao items.length c):=aA (i:=0) hk;have r1:w2.cell? ⟨w.heap.size,1,none⟩=some (.int .i64 b):=aA (i:=1) hk;clear hk hadd;go_wp2_with fail
     refine (Tryz.strconv_Itoa (b:Int) (by omega) (by omega) _ (Lib.TabBelow.here (HP.out.on (HWT.out.bl.trans HA1.out.bl)))).mono ?_;rintro e w3⟨rfl,kk,os,hw3⟩;rw[fM];have hg3:Below w2.heap.size w2 w3:=by rw[hw3];exact cH _ _ _
     have HG3:=hid hg3;have HB3:=hid (HA1.out.bd.below hg3);clear hw3 hg3;have HDS:=hid (dU b);go_wp2_with fail
     refine (aS w.heap.size (w.heap.size+1) _ (cK b) _ HB3.out (by have:=HLN.out;have:=HDS.out;simp only[List.length_append,Lib.strCells_length,jC];omega) (by have:=HWT.out.lt;have:=HA1.out.bl.size;have:=HG3.out.size;omega)).mono ?_;rintro e w4⟨rfl,h1,h2,h3⟩;have HA4:=hid (HA1.out.trans ((bZ.mk h1 h2 h3).from HG3.out (by have:=HWT.out.lt;have:=HA1.out.bl.size;omega)));clear h1 h2 h3;go_wp2_with fail
     have hfin:=HA4.out.bd;rw[<-eH] at hfin;have HFIN:=hid hfin;clear hfin;refine (mC HFIN.out (by have:=HWT.out.lt;have:=HA4.out.bl.size;omega)).mono ?_;rintro e w5⟨rfl,hb5⟩;have HB5:=hid ((HWT.out.bl.trans HA4.out.bl).trans hb5);clear hb5;go_wp2;go_ret;exact⟨J9 (by simp only[yA];rw[C9]),HB5.out⟩
def qS(t:Tok):ByteArray:=(t.text++⟨#[64]⟩)++((cK t.line++⟨#[58]⟩)++cK t.col)
def dI:List ByteArray->ByteArray
 | []=>⟨#[]⟩
 | a::r=>r.foldl (fun s x=>(s++⟨#[32]⟩)++x) a
theorem Da(l:List ByteArray)(x:ByteArray)(h:l ≠ []):dI (l ++ [x])=(dI l++⟨#[32]⟩)++x:=by
 cases l with
 | nil=>exact absurd rfl h
 | cons a r=>simp[dI]
theorem Fc(x:ByteArray):dI [x]=x:=rfl
theorem vO:∀(r:List ByteArray) (M:Nat) (a:ByteArray),(∀s∈r,s.size<=M)->(r.foldl (fun s x=>(s++⟨#[32]⟩)++x) a).size<=a.size+r.length*(M+1)
 | [],_,a,_=>by simp
 | b::r,M,a,h=>by
  have h1:=vO r M ((a++⟨#[32]⟩)++b) fun s hs=>h s (by simp[hs]);have h2:=h b (by simp);rw[ByteArray.size_append,ByteArray.size_append,jC] at h1;simp only[List.foldl_cons,List.length_cons,Nat.add_mul] at *;omega
theorem vP(l:List ByteArray)(M:Nat)(h:∀s∈l,s.size<=M):(dI l).size<=l.length*(M+1):=by
 cases l with
 | nil=>simp[dI];rfl
 | cons a r=>
  have:=vO r M a fun s hs=>h s (by simp[hs])
  have h2:=h a (by simp);simp only[dI,List.length_cons,Nat.add_mul] at *;omega
theorem bZ.after{B b:Nat}{bs:List Value}{s:ByteArray}{w w1 w2:World}(h:bZ B b bs s w w1)(hb:Below w1.heap.size w1 w2)(hB:B<=w.heap.size):bZ B b bs s w w2:=
 ⟨h.bd.below hb,h.bl.trans (cO (by have:=h.bl.size;omega) hb),h.kt.trans h.bl.size (KT.of_below hb)⟩
structure N4 (ss:List ByteArray) (w wr:World) (k:Nat):Prop where
 bd:wF w.heap.size w.heap.size (Lib.strCells (dI (ss.take k))) wr
 bl:Below w.heap.size w wr
 lt:w.heap.size<wr.heap.size
theorem Nh(tt:ByteArray)(tl tc:Nat):(tt++⟨#[64]⟩++(cK tl)++⟨#[58]⟩++(cK tc))=qS ⟨tt,tl,tc⟩:=by
 apply ByteArray.ext;simp[qS,ByteArray.data_append,Array.append_assoc]
theorem Ni(j tt:ByteArray)(tl tc:Nat):j++(⟨#[32]⟩++tt++⟨#[64]⟩++(cK tl)++⟨#[58]⟩++(cK tc))=(j++⟨#[32]⟩)++qS ⟨tt,tl,tc⟩:=by
 apply ByteArray.ext;simp[qS,ByteArray.data_append,Array.append_assoc]
theorem BO(ss:List ByteArray)(k:Nat)(hk:k<ss.length)(h0:k=0):dI (ss.take (k+1))=dI (ss.take k)++ss[k]:=by
 subst h0;rw[kS ss 0 hk,List.take_zero,List.nil_append,Fc];apply ByteArray.ext;simp[dI,ByteArray.data_append]
theorem BP(ss:List ByteArray)(k:Nat)(hk:k<ss.length)(h0:k≠0):dI (ss.take (k+1))=(dI (ss.take k)++⟨#[32]⟩)++ss[k]:=by
 rw[kS ss k hk,Da];intro e;have:=congrArg List.length e
 rw[List.length_take,List.length_nil] at this;omega
theorem sM(toks:List Tok)(hn:toks.length<=401)(hsz:∀(i:Nat) (t:Tok),toks[i]? = some t->t.text.size<=400/\t.line<=1000/\t.col<=1000)(tb c:Nat)(w:World)
 (ht:∃cur,w.heap[tb]? = some (.cells cur 121)/\cur.toList.take (3*toks.length)=aV toks) (hp:PT w.heap.size w) :
 Calls Tryz.prog 38 #[.slice (some ⟨tb,0,none⟩) toks.length c] w fun e w'=>e = .returned (.string (dI (toks.map qS)))/\Below w.heap.size w w':=by
 obtain⟨cur,htb,hcur⟩:=ht;have HTB:=hid htb;have HCUR:=hid hcur;have HSZ:=hid hsz;have HP:=hid hp;obtain⟨ss,hss⟩:∃ss,ss=toks.map qS:=⟨_,rfl⟩
 have hlen:ss.length=toks.length:=by rw[hss];simp
 have HGET:Hid (∀k (h:k<toks.length),ss[k]'(by omega)=qS toks[k]):=hid (fun k h=>by subst hss;simp);have HS1:Hid (∀s∈ss,s.size<=3000):=hid (fun s hs=>by
  subst hss;obtain⟨t,ht,rfl⟩:=List.mem_map.1 hs;obtain⟨k,hk,rfl⟩:=List.getElem_of_mem ht;obtain⟨h1,h2,h3⟩:=hsz k _ (List.getElem?_eq_getElem hk);have d1:=dU toks[k].line;have d2:=dU toks[k].col;simp only[qS,ByteArray.size_append,jC];omega)
 have HW0:Hid (N4 ss w (w.alloc (.cells #[.pointer none,.slice none 0 0] 119)) 0):=hid
  ⟨.inl ⟨by omega,.slice none 0 0,aI _ _,World.ownsRow_nil _ _ _ _,by simp[Value.ownBlock]⟩,(Below.refl _ _).alloc (Nat.le_refl _) _,by simp⟩
 rw[<-hss];clear htb hcur hsz hp hss;go_enter Tryz.func38,Tryz.ntmps38;go_wp2;go_loopg [8] toks.length (fun f v9 wr=>∃k,k+f=toks.length/\v9 = .int .i64 (k:Nat)/\N4 ss w wr k)
 case atStart=>exact⟨0,by omega,rfl,HW0.out⟩
 case round=>
  clear HW0;obtain⟨k,hk,rfl,hwt⟩:=hrel;have HWT:=hid hwt;clear hwt;by_cases hlt:k<toks.length
  . have hi:=List.getElem?_eq_getElem hlt
    have HG:=hid (HGET.out k hlt);have HJ0:=hid (BO ss k (by omega));have HJS:=hid (BP ss k (by omega));generalize htt:toks[k]=tk at hi HG;obtain⟨tt,tl,tc⟩:=tk;obtain⟨hz1,hz2,hz3⟩:=HSZ.out k _ hi;simp only at hz1 hz2 hz3;have z:=iY toks k _ hi;have h1:=below_heap HWT.out.bl (aB HTB.out) HTB.out;have z0:wr.cell? ⟨tb,k*3,none⟩=some (.string tt):=by
     rw[aA h1,<-Array.getElem?_toList,Nat.mul_comm];exact cX HCUR.out z.1
    have z1:wr.cell? ⟨tb,k*3+1,none⟩=some (.int .i64 tl):=by
     rw[aA h1,<-Array.getElem?_toList,Nat.mul_comm];exact cX HCUR.out z.2.1
    have z2:wr.cell? ⟨tb,k*3+2,none⟩=some (.int .i64 tc):=by
     rw[aA h1,<-Array.getElem?_toList,Nat.mul_comm];exact cX HCUR.out z.2.2
    have hlt2:(k:Int)<(toks.length:Int):=by omega
    have hkc:(0:Int)<=(k:Int):=by omega
    have HB:=hid (HWT.out.bd.below (cG wr (.cells #[.string tt,.int .i64 (tl:Nat),.int .i64 (tc:Nat)] 121)));have HB1:Hid (w.heap.size<=(wr.alloc (.cells #[.string tt,.int .i64 (tl:Nat),.int .i64 (tc:Nat)] 121)).heap.size):=hid (by have:=HWT.out.lt;simp;omega);have HP:=hid (HP.out.on (HWT.out.bl.alloc (by have:=HWT.out.lt;omega) (.cells #[.string tt,.int .i64 (tl:Nat),.int .i64 (tc:Nat)] 121)));have HN:=hid (aI wr (.cells #[.string tt,.int .i64 (tl:Nat),.int .i64 (tc:Nat)] 121));have hne:wr.heap.size≠w.heap.size:=Nat.ne_of_gt HWT.out.lt;have HD1:=dU tl;have HD2:=dU tc;have HLN:Hid ((Lib.strCells (dI (ss.take k))).length<=2000000):=hid (by
     have h1:=vP (ss.take k) 3000 (fun s hs=>HS1.out s (List.mem_of_mem_take hs));simp only[List.length_take] at h1;simp only[Lib.strCells_length];omega)
    clear htt z h1 hi;by_cases hk0:k=0
    . subst hk0
      simp only[Nat.zero_mul,Nat.zero_add] at z0 z1 z2;have HJ1:=hid (HJ0.out rfl);clear HJ0;go_wp2_with fail
      refine (aS w.heap.size w.heap.size (Lib.strCells (dI (ss.take 0))) tt _ HB.out (by have:=HLN.out;simp only[List.length_append,Lib.strCells_length,ByteArray.size_append,jC,iP] at *;omega) HB1.out).mono ?_;rintro e w1⟨rfl,h1,h2,h3⟩;have hadd:=bZ.mk h1 h2 h3;clear h1 h2 h3;have HA:=hid hadd;clear hadd;have hk:=HA.out.kt.get HN.out hne (by decide);have k1_0:World.cell? _ ⟨wr.heap.size,0,none⟩=some (.string tt):=aA (i:=0) hk;have k1_1:World.cell? _ ⟨wr.heap.size,1,none⟩=some (.int .i64 (tl:Nat)):=aA (i:=1) hk;have k1_2:World.cell? _ ⟨wr.heap.size,2,none⟩=some (.int .i64 (tc:Nat)):=aA (i:=2) hk;clear hk;go_wp2_with fail
      refine (bF w.heap.size w.heap.size (Lib.strCells (dI (ss.take 0))++Lib.strCells (tt)) 64 _ HA.out.bd (by have:=HLN.out;simp only[List.length_append,Lib.strCells_length,ByteArray.size_append,jC,iP] at *;omega) (Nat.le_trans HB1.out HA.out.bl.size)).mono ?_;rintro e w2⟨rfl,hadd⟩;have hadd:=bZ.byte (c:=64) hadd;have HA:=hid (HA.out.trans hadd);clear hadd;have hk:=HA.out.kt.get HN.out hne (by decide);have k2_0:World.cell? _ ⟨wr.heap.size,0,none⟩=some (.string tt):=aA (i:=0) hk;have k2_1:World.cell? _ ⟨wr.heap.size,1,none⟩=some (.int .i64 (tl:Nat)):=aA (i:=1) hk;have k2_2:World.cell? _ ⟨wr.heap.size,2,none⟩=some (.int .i64 (tc:Nat)):=aA (i:=2) hk;clear hk;go_wp2_with fail
      refine (Tryz.strconv_Itoa (tl:Int) (by omega) (by omega) _ (Lib.TabBelow.here (HP.out.on HA.out.bl))).mono ?_;rintro e w3⟨rfl,kk,os,hw⟩;rw[fM];have hg:Below w2.heap.size w2 w3:=by rw[hw];exact cH _ _ _
      have HA:=hid (HA.out.after hg HB1.out);clear hw hg;have hk:=HA.out.kt.get HN.out hne (by decide);have k3_0:World.cell? _ ⟨wr.heap.size,0,none⟩=some (.string tt):=aA (i:=0) hk;have k3_1:World.cell? _ ⟨wr.heap.size,1,none⟩=some (.int .i64 (tl:Nat)):=aA (i:=1) hk;have k3_2:World.cell? _ ⟨wr.heap.size,2,none⟩=some (.int .i64 (tc:Nat)):=aA (i:=2) hk;clear hk;go_wp2_with fail
      refine (aS w.heap.size w.heap.size (Lib.strCells (dI (ss.take 0))++Lib.strCells (tt++⟨#[64]⟩)) (cK tl) _ HA.out.bd (by have:=HLN.out;simp only[List.length_append,Lib.strCells_length,ByteArray.size_append,jC,iP] at *;omega) (Nat.le_trans HB1.out HA.out.bl.size)).mono ?_;rintro e w4⟨rfl,h1,h2,h3⟩;have hadd:=bZ.mk h1 h2 h3;clear h1 h2 h3;have HA:=hid (HA.out.trans hadd);clear hadd;have hk:=HA.out.kt.get HN.out hne (by decide);have k4_0:World.cell? _ ⟨wr.heap.size,0,none⟩=some (.string tt):=aA (i:=0) hk;have k4_1:World.cell? _ ⟨wr.heap.size,1,none⟩=some (.int .i64 (tl:Nat)):=aA (i:=1) hk;have k4_2:World.cell? _ ⟨wr.heap.size,2,none⟩=some (.int .i64 (tc:Nat)):=aA (i:=2) hk;clear hk;go_wp2_with fail
      refine (bF w.heap.size w.heap.size (Lib.strCells (dI (ss.take 0))++Lib.strCells (tt++⟨#[64]⟩++(cK tl))) 58 _ HA.out.bd (by have:=HLN.out;simp only[List.length_append,Lib.strCells_length,ByteArray.size_append,jC,iP] at *;omega) (Nat.le_trans HB1.out HA.out.bl.size)).mono ?_;rintro e w5⟨rfl,hadd⟩;have hadd:=bZ.byte (c:=58) hadd;have HA:=hid (HA.out.trans hadd);clear hadd;have hk:=HA.out.kt.get HN.out hne (by decide);have k5_0:World.cell? _ ⟨wr.heap.size,0,none⟩=some (.string tt):=aA (i:=0) hk;have k5_1:World.cell? _ ⟨wr.heap.size,1,none⟩=some (.int .i64 (tl:Nat)):=aA (i:=1) hk;have k5_2:World.cell? _ ⟨wr.heap.size,2,none⟩=some (.int .i64 (tc:Nat)):=aA (i:=2) hk;clear hk;go_wp2_with fail
      refine (Tryz.strconv_Itoa (tc:Int) (by omega) (by omega) _ (Lib.TabBelow.here (HP.out.on HA.out.bl))).mono ?_;rintro e w6⟨rfl,kk,os,hw⟩;rw[fM];have hg:Below w5.heap.size w5 w6:=by rw[hw];exact cH _ _ _
      have HA:=hid (HA.out.after hg HB1.out);clear hw hg;have hk:=HA.out.kt.get HN.out hne (by decide);have k6_0:World.cell? _ ⟨wr.heap.size,0,none⟩=some (.string tt):=aA (i:=0) hk;have k6_1:World.cell? _ ⟨wr.heap.size,1,none⟩=some (.int .i64 (tl:Nat)):=aA (i:=1) hk;have k6_2:World.cell? _ ⟨wr.heap.size,2,none⟩=some (.int .i64 (tc:Nat)):=aA (i:=2) hk;clear hk;go_wp2_with fail
      refine (aS w.heap.size w.heap.size (Lib.strCells (dI (ss.take 0))++Lib.strCells (tt++⟨#[64]⟩++(cK tl)++⟨#[58]⟩)) (cK tc) _ HA.out.bd (by have:=HLN.out;simp only[List.length_append,Lib.strCells_length,ByteArray.size_append,jC,iP] at *;omega) (Nat.le_trans HB1.out HA.out.bl.size)).mono ?_;rintro e w7⟨rfl,h1,h2,h3⟩;have hadd:=bZ.mk h1 h2 h3;clear h1 h2 h3;have HA:=hid (HA.out.trans hadd);clear hadd;have hk:=HA.out.kt.get HN.out hne (by decide);have k7_0:World.cell? _ ⟨wr.heap.size,0,none⟩=some (.string tt):=aA (i:=0) hk;have k7_1:World.cell? _ ⟨wr.heap.size,1,none⟩=some (.int .i64 (tl:Nat)):=aA (i:=1) hk;have k7_2:World.cell? _ ⟨wr.heap.size,2,none⟩=some (.int .i64 (tc:Nat)):=aA (i:=2) hk;clear hk;have HW2:Hid (N4 ss w w7 (0+1)):=hid ⟨by rw[HJ1.out,HG.out,<-Nh tt tl tc,eH];exact HA.out.bd,(HWT.out.bl.alloc (by have:=HWT.out.lt;omega) _).trans HA.out.bl,by have:=HA.out.bl.size;have:=HWT.out.lt;simp at *;omega⟩;go_wp2;go_roundg (toks.length-1)
      case rel=>exact⟨1,by omega,by go_num,HW2.out⟩
      case measure=>omega
    . have hk1:((0:Int)<(k:Int)):=by omega
      go_wp2_with fail
      refine (bF w.heap.size w.heap.size (Lib.strCells (dI (ss.take k))) 32 _ HB.out (by have:=HLN.out;simp only[List.length_append,Lib.strCells_length,ByteArray.size_append,jC,iP] at *;omega) HB1.out).mono ?_;rintro e w1⟨rfl,hadd⟩;have hadd:=bZ.byte (c:=32) hadd;have HA:=hid hadd;clear hadd;have hk:=HA.out.kt.get HN.out hne (by decide);have k1_0:World.cell? _ ⟨wr.heap.size,0,none⟩=some (.string tt):=aA (i:=0) hk;have k1_1:World.cell? _ ⟨wr.heap.size,1,none⟩=some (.int .i64 (tl:Nat)):=aA (i:=1) hk;have k1_2:World.cell? _ ⟨wr.heap.size,2,none⟩=some (.int .i64 (tc:Nat)):=aA (i:=2) hk;clear hk;go_wp2_with fail
      refine (aS w.heap.size w.heap.size (Lib.strCells (dI (ss.take k))++Lib.strCells (⟨#[32]⟩)) tt _ HA.out.bd (by have:=HLN.out;simp only[List.length_append,Lib.strCells_length,ByteArray.size_append,jC,iP] at *;omega) (Nat.le_trans HB1.out HA.out.bl.size)).mono ?_;rintro e w2⟨rfl,h1,h2,h3⟩;have hadd:=bZ.mk h1 h2 h3;clear h1 h2 h3;have HA:=hid (HA.out.trans hadd);clear hadd;have hk:=HA.out.kt.get HN.out hne (by decide);have k2_0:World.cell? _ ⟨wr.heap.size,0,none⟩=some (.string tt):=aA (i:=0) hk;have k2_1:World.cell? _ ⟨wr.heap.size,1,none⟩=some (.int .i64 (tl:Nat)):=aA (i:=1) hk;have k2_2:World.cell? _ ⟨wr.heap.size,2,none⟩=some (.int .i64 (tc:Nat)):=aA (i:=2) hk;clear hk;go_wp2_with fail
      refine (bF w.heap.size w.heap.size (Lib.strCells (dI (ss.take k))++Lib.strCells (⟨#[32]⟩++tt)) 64 _ HA.out.bd (by have:=HLN.out;simp only[List.length_append,Lib.strCells_length,ByteArray.size_append,jC,iP] at *;omega) (Nat.le_trans HB1.out HA.out.bl.size)).mono ?_;rintro e w3⟨rfl,hadd⟩;have hadd:=bZ.byte (c:=64) hadd;have HA:=hid (HA.out.trans hadd);clear hadd;have hk:=HA.out.kt.get HN.out hne (by decide);have k3_0:World.cell? _ ⟨wr.heap.size,0,none⟩=some (.string tt):=aA (i:=0) hk;have k3_1:World.cell? _ ⟨wr.heap.size,1,none⟩=some (.int .i64 (tl:Nat)):=aA (i:=1) hk;have k3_2:World.cell? _ ⟨wr.heap.size,2,none⟩=some (.int .i64 (tc:Nat)):=aA (i:=2) hk;clear hk;go_wp2_with fail
      refine (Tryz.strconv_Itoa (tl:Int) (by omega) (by omega) _ (Lib.TabBelow.here (HP.out.on HA.out.bl))).mono ?_;rintro e w4⟨rfl,kk,os,hw⟩;rw[fM];have hg:Below w3.heap.size w3 w4:=by rw[hw];exact cH _ _ _
      have HA:=hid (HA.out.after hg HB1.out);clear hw hg;have hk:=HA.out.kt.get HN.out hne (by decide);have k4_0:World.cell? _ ⟨wr.heap.size,0,none⟩=some (.string tt):=aA (i:=0) hk;have k4_1:World.cell? _ ⟨wr.heap.size,1,none⟩=some (.int .i64 (tl:Nat)):=aA (i:=1) hk;have k4_2:World.cell? _ ⟨wr.heap.size,2,none⟩=some (.int .i64 (tc:Nat)):=aA (i:=2) hk;clear hk;go_wp2_with fail
      refine (aS w.heap.size w.heap.size (Lib.strCells (dI (ss.take k))++Lib.strCells (⟨#[32]⟩++tt++⟨#[64]⟩)) (cK tl) _ HA.out.bd (by have:=HLN.out;simp only[List.length_append,Lib.strCells_length,ByteArray.size_append,jC,iP] at *;omega) (Nat.le_trans HB1.out HA.out.bl.size)).mono ?_;rintro e w5⟨rfl,h1,h2,h3⟩;have hadd:=bZ.mk h1 h2 h3;clear h1 h2 h3;have HA:=hid (HA.out.trans hadd);clear hadd;have hk:=HA.out.kt.get HN.out hne (by decide);have k5_0:World.cell? _ ⟨wr.heap.size,0,none⟩=some (.string tt):=aA (i:=0) hk;have k5_1:World.cell? _ ⟨wr.heap.size,1,none⟩=some (.int .i64 (tl:Nat)):=aA (i:=1) hk;have k5_2:World.cell? _ ⟨wr.heap.size,2,none⟩=some (.int .i64 (tc:Nat)):=aA (i:=2) hk;clear hk;go_wp2_with fail
      refine (bF w.heap.size w.heap.size (Lib.strCells (dI (ss.take k))++Lib.strCells (⟨#[32]⟩++tt++⟨#[64]⟩++(cK tl))) 58 _ HA.out.bd (by have:=HLN.out;simp only[List.length_append,Lib.strCells_length,ByteArray.size_append,jC,iP] at *;omega) (Nat.le_trans HB1.out HA.out.bl.size)).mono ?_;rintro e w6⟨rfl,hadd⟩;have hadd:=bZ.byte (c:=58) hadd;have HA:=hid (HA.out.trans hadd);clear hadd;have hk:=HA.out.kt.get HN.out hne (by decide);have k6_0:World.cell? _ ⟨wr.heap.size,0,none⟩=some (.string tt):=aA (i:=0) hk;have k6_1:World.cell? _ ⟨wr.heap.size,1,none⟩=some (.int .i64 (tl:Nat)):=aA (i:=1) hk;have k6_2:World.cell? _ ⟨wr.heap.size,2,none⟩=some (.int .i64 (tc:Nat)):=aA (i:=2) hk;clear hk;go_wp2_with fail
      refine (Tryz.strconv_Itoa (tc:Int) (by omega) (by omega) _ (Lib.TabBelow.here (HP.out.on HA.out.bl))).mono ?_;rintro e w7⟨rfl,kk,os,hw⟩;rw[fM];have hg:Below w6.heap.size w6 w7:=by rw[hw];exact cH _ _ _
      have HA:=hid (HA.out.after hg HB1.out);clear hw hg;have hk:=HA.out.kt.get HN.out hne (by decide);have k7_0:World.cell? _ ⟨wr.heap.size,0,none⟩=some (.string tt):=aA (i:=0) hk;have k7_1:World.cell? _ ⟨wr.heap.size,1,none⟩=some (.int .i64 (tl:Nat)):=aA (i:=1) hk;have k7_2:World.cell? _ ⟨wr.heap.size,2,none⟩=some (.int .i64 (tc:Nat)):=aA (i:=2) hk;clear hk;go_wp2_with fail
      refine (aS w.heap.size w.heap.size (Lib.strCells (dI (ss.take k))++Lib.strCells (⟨#[32]⟩++tt++⟨#[64]⟩++(cK tl)++⟨#[58]⟩)) (cK tc) _ HA.out.bd (by have:=HLN.out;simp only[List.length_append,Lib.strCells_length,ByteArray.size_append,jC,iP] at *;omega) (Nat.le_trans HB1.out HA.out.bl.size)).mono ?_;rintro e w8⟨rfl,h1,h2,h3⟩;have hadd:=bZ.mk h1 h2 h3;clear h1 h2 h3;have HA:=hid (HA.out.trans hadd);clear hadd;have hk:=HA.out.kt.get HN.out hne (by decide);have k8_0:World.cell? _ ⟨wr.heap.size,0,none⟩=some (.string tt):=aA (i:=0) hk;have k8_1:World.cell? _ ⟨wr.heap.size,1,none⟩=some (.int .i64 (tl:Nat)):=aA (i:=1) hk;have k8_2:World.cell? _ ⟨wr.heap.size,2,none⟩=some (.int .i64 (tc:Nat)):=aA (i:=2) hk;clear hk;have HW2:Hid (N4 ss w w8 (k+1)):=hid ⟨by rw[HJS.out hk0,HG.out,<-Ni (dI (ss.take k)) tt tl tc,eH];exact HA.out.bd,(HWT.out.bl.alloc (by have:=HWT.out.lt;omega) _).trans HA.out.bl,by have:=HA.out.bl.size;have:=HWT.out.lt;simp at *;omega⟩;go_wp2;go_roundg (toks.length-(k+1))
      case rel=>exact⟨k+1,by omega,by go_num,HW2.out⟩
      case measure=>omega
  . have hke:k=toks.length:=by omega
    subst hke;have HC2:=hid (show ss.take toks.length=ss by rw[<-hlen,List.take_length]);have hb0:=HWT.out.bd;rw[HC2.out] at hb0;have HB0:=hid hb0;clear hb0;go_wp2_with fail
    refine (mC HB0.out (by have:=HWT.out.lt;omega)).mono ?_;rintro e w2⟨rfl,hb2⟩;have HB2:=hid (HWT.out.bl.trans hb2);clear hb2;go_wp2;go_ret;exact⟨rfl,HB2.out⟩
end Go.Proofs.YthibodlojlkppaaGreatDoor

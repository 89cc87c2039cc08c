import Derived.Test.YthibodlojlkppaaGreatDoorZ08
import Derived.Lib.AppendIntMem
import Derived.BigRegion
import Derived.Sort.OwnSorted
import Derived.Lib.RowBridge
set_option linter.all false
set_option maxRecDepth 100000
set_option maxHeartbeats 40000000
namespace Go.Proofs.YthibodlojlkppaaGreatDoor
open Go.RowKit Go.Sort
theorem cH(w:World)(k:Nat)(os:Array Obj):Below w.heap.size w (grow (w.drewN k) os):=by
 refine⟨rfl,rfl,rfl,?_,fun j hj=>?_⟩
 . show w.heap.size<=(w.heap++os).size
   rw[Array.size_append];omega
 . show (w.heap++os)[j]? = w.heap[j]?
   rw[Array.getElem?_append_left hj]
theorem jC(c:UInt8):(⟨#[c]⟩:ByteArray).size=1:=rfl
theorem dT(l:List UInt8):(⟨⟨l⟩⟩:ByteArray).size=l.length:=by simp[ByteArray.size]
abbrev iP:Nat:=140737488355328
def PT(B:Nat)(w:World):Prop:=Lib.TabBelow Tryz.prog B w "internal/strconv.uint64pow10" .u64 Lib.pow10Tab
theorem wF.below{B b:Nat}{bs:List Value}{w w':World}(h:wF B b bs w)(hb:Below w.heap.size w w'):wF B b bs w':=by
 have key:∀p,Oi B b p bs w->Oi B b p bs w':=by
  rintro p⟨hB,v,hbk,hown,hne⟩;exact⟨hB,v,below_heap hb (aB hbk) hbk,jF hown fun g _ hg=>hb.block g hg,hne⟩
 rcases h with h|h
 . exact .inl (key _ h)
 . exact .inr (key _ h)
theorem wF.lt{B b:Nat}{bs:List Value}{w:World}(h:wF B b bs w):b<w.heap.size:=by
 rcases h with h|h
 . exact Lib.BuilderAt.lt h
 . exact Lib.BuilderAt.lt h
theorem KT.of_below{b:Nat}{w w':World}(h:Below w.heap.size w w'):KT b w w':=fun k hk _ _=>h.block k hk
structure bZ (B b:Nat) (bs:List Value) (s:ByteArray) (w w':World):Prop where
 bd:wF B b (bs++Lib.strCells s) w'
 bl:Below B w w'
 kt:KT b w w'
def gZ(x:Value)(s:ByteArray):Prop:=
 ∃(T:TypeId) (v u:Value) (F:FuncId),x = .iface T v/\(∀w,(method 414 T v "almanac/lang.write").run Tryz.prog w = .ok (F,u) w)/\(∀args w,(callFunc F args).run Tryz.prog w = .ok (.enter F args) w)/\Tryz.prog.inits.idxOf? F=none/\
  ∀(B b:Nat) (bs:List Value) (w:World),wF B b bs w->bs.length+s.size<=iP->B<=w.heap.size->PT B w->
   Calls Tryz.prog F #[u,.pointer (some ⟨b,0,none⟩)] w fun e w'=>(∃r,e = .returned r)/\bZ B b bs s w w'
theorem eH(s t:ByteArray):Lib.strCells (s++t)=Lib.strCells s++Lib.strCells t:=by
 simp[Lib.strCells,Lib.byteCells]
theorem bZ.trans{B b:Nat}{bs:List Value}{s t:ByteArray}{w w1 w2:World}(h:bZ B b bs s w w1)(k:bZ B b (bs++Lib.strCells s) t w1 w2):bZ B b bs (s++t) w w2:=
 ⟨by rw[eH,<-List.append_assoc];exact k.bd,h.bl.trans k.bl,h.kt.trans h.bl.size k.kt⟩
theorem bZ.from{B b:Nat}{bs:List Value}{s:ByteArray}{w0 w w':World}(h:bZ B b bs s w w')(hb:Below w0.heap.size w0 w)(hB:B<=w0.heap.size):bZ B b bs s w0 w':=
 ⟨h.bd,(cO hB hb).trans h.bl,(KT.of_below hb).trans hb.size h.kt⟩
end Go.Proofs.YthibodlojlkppaaGreatDoor
namespace Go.Proofs.YthibodlojlkppaaGreatDoor
open Go.RowKit
variable [DecidableEq K] [LawfulBEq Lk]
theorem uZ(t:ByteArray)(w:World) :
 Calls Tryz.prog 35 #[.string t] w fun e w'=>e = .returned (.bool (bR t))/\w'=w:=by
 by_cases h2:t.size<=8
 . exact jK t w (by unfold maxLen;omega)
 . have h1:1<=t.size:=by omega
   go_enter Tryz.func35,Tryz.ntmps35;go_wp2;go_ret;exact⟨bG (by simp[bR,h2]),rfl⟩
theorem oW(t:ByteArray)(w:World) :
 Calls Tryz.prog 29 #[.string t] w fun e w'=>e = .returned (.bool (eM t))/\w'=w:=by
 have HN:=hid (uZ t w);obtain⟨n,hn⟩:∃n,n=bR t:=⟨_,rfl⟩
 obtain⟨a,ha⟩:∃a,a=bB t none_:=⟨_,rfl⟩
 obtain⟨b,hb⟩:∃b,b=bB t rY:=⟨_,rfl⟩
 have h1:(t.toList == [110,111,110,101])=a:=(bP t [110,111,110,101]).symm.trans ha.symm;have h2:(t.toList == [116,119,111])=b:=(bP t [116,119,111]).symm.trans hb.symm;have hf:eM t=(n && !a && !b):=by unfold eM;rw[<-hn,<-ha,<-hb]
 rw[hf];rw[<-hn] at HN;clear hn ha hb hf;cases n;all_goals cases a
 all_goals cases b
 all_goals
  go_enter Tryz.func29,Tryz.ntmps29;go_wp2_with (first|(go_at_call 35;refine HN.out.mono ?_;rintro e w'⟨rfl,rfl⟩))
  go_ret;exact⟨rfl,rfl⟩
theorem kK(t:ByteArray)(w:World) :
 Calls Tryz.prog 130 #[.string t] w fun e w'=>e = .returned (.int .i64 (fG t))/\w'=w:=by
 obtain⟨a,ha⟩:∃a,a=bB t dA:=⟨_,rfl⟩
 obtain⟨b,hb⟩:∃b,b=bB t eX:=⟨_,rfl⟩
 obtain⟨c,hc⟩:∃c,c=bB t q8:=⟨_,rfl⟩
 have h1:(t.toList == [99,121,99,108,101])=a:=(bP t [99,121,99,108,101]).symm.trans ha.symm;have h2:(t.toList == [98,97,100])=b:=(bP t [98,97,100]).symm.trans hb.symm;have h3:(t.toList == [111,118,101,114])=c:=(bP t [111,118,101,114]).symm.trans hc.symm;have hg:fG t=if a then 3 else if b then 2 else if c then 1 else 0:=by unfold fG;rw[<-ha,<-hb,<-hc]
 rw[hg];clear ha hb hc hg;cases a;all_goals cases b
 all_goals cases c
 all_goals
  go_enter Tryz.func130,Tryz.ntmps130;go_wp2;go_ret;exact⟨rfl,rfl⟩
theorem xS(f v:ByteArray)(w:World) :
 Calls Tryz.prog 105 #[.string f,.string v] w fun e w'=>e = .returned (.string (fT f v))/\w'=w:=by
 by_cases h:fG f<fG v
 . have hw:fT f v=v:=by unfold fT;rw[if_pos h]
   rw[hw];have HG1:=hid (kK v w);have HG2:=hid (kK f w);obtain⟨x,hx⟩:∃x:Int,x=fG f:=⟨_,rfl⟩
   obtain⟨y,hy⟩:∃y:Int,y=fG v:=⟨_,rfl⟩
   have hlt:x<y:=by omega
   rw[<-hx] at HG2;rw[<-hy] at HG1;clear h hw hx hy;go_enter Tryz.func105,Tryz.ntmps105;go_wp2_with fail
   refine HG1.out.mono ?_;rintro e w1⟨rfl,rfl⟩;go_wp2_with fail
   refine HG2.out.mono ?_;rintro e w2⟨rfl,rfl⟩;go_wp2;go_ret;exact⟨rfl,rfl⟩
 . have hw:fT f v=f:=by unfold fT;rw[if_neg h]
   rw[hw];have HG1:=hid (kK v w);have HG2:=hid (kK f w);obtain⟨x,hx⟩:∃x:Int,x=fG f:=⟨_,rfl⟩
   obtain⟨y,hy⟩:∃y:Int,y=fG v:=⟨_,rfl⟩
   have hlt:¬(x<y):=by omega
   rw[<-hx] at HG2;rw[<-hy] at HG1;clear h hw hx hy;go_enter Tryz.func105,Tryz.ntmps105;go_wp2_with fail
   refine HG1.out.mono ?_;rintro e w1⟨rfl,rfl⟩;go_wp2_with fail
   refine HG2.out.mono ?_;rintro e w2⟨rfl,rfl⟩;go_wp2;go_ret;exact⟨rfl,rfl⟩
theorem u4:∀(l:List UInt8) (acc:Nat),(∀x∈l,aQ x.toNat=true)->(acc+1)*10 ^ l.length<=10 ^ 10->∃n,Lib.decFrom acc l=some n/\Lib.parseUintM 18446744073709551615 acc l = .ok n/\n<10 ^ 10
 | [],acc,_,h=>⟨acc,rfl,rfl,by simp at h;omega⟩
 | c::l,acc,hd,h=>by
  have hc:=hd c (by simp);unfold aQ at hc;simp only[Bool.and_eq_true,decide_eq_true_eq] at hc;have hc:48<=c.toNat/\c.toNat<=57:=by omega
  have h10:1<=10 ^ l.length:=Nat.pow_pos (by decide);rw[List.length_cons,Nat.pow_succ,Nat.mul_comm (10 ^ l.length) 10,<-Nat.mul_assoc] at h;have hstep:(acc*10+(c.toNat-48)+1)*10 ^ l.length<=10 ^ 10:=Nat.le_trans (Nat.mul_le_mul_right _ (by omega)) h;have hacc:(acc+1)*10<=10 ^ 10:=Nat.le_trans (Nat.le_mul_of_pos_right _ h10) h;obtain⟨n,h1,h2,h3⟩:=u4 l (acc*10+(c.toNat-48)) (fun x hx=>hd x (List.mem_cons_of_mem _ hx)) hstep;refine⟨n,?_,?_,h3⟩
  . have hdv:Lib.digitVal c=some (c.toNat-48):=if_pos hc
    simp only[Lib.decFrom,hdv];exact h1
  . rw[Lib.parseUintM,if_pos hc,if_neg (by omega),if_neg (by omega)]
    exact h2
theorem EH{t:ByteArray}(h:iZ t=true):Lib.parseIntB 64 t.data.toList = .ok (dW t):=by
 obtain⟨h1,h2,h3⟩:=nR h;unfold dW;have hl:t.data.toList.length=t.size:=by simp
 generalize t.data.toList=l at *;cases l with
 | nil=>simp at hl;omega
 | cons c r=>
  have hc:=h3 c (by simp);unfold aQ at hc;simp only[Bool.and_eq_true,decide_eq_true_eq] at hc;have n1:(c==45)=false:=by rw[beq_eq_false_iff_ne];rintro rfl;exact absurd hc.1 (by decide)
  have n2:(c==43)=false:=by rw[beq_eq_false_iff_ne];rintro rfl;exact absurd hc.1 (by decide)
  obtain⟨n,d1,d2,d3⟩:=u4 (c::r) 0 h3 (by
   have:10 ^ (c::r).length<=10 ^ 9:=Nat.pow_le_pow_right (by omega) (by omega)
   omega)
  have m1:¬(c.toNat=43\/c.toNat=45):=by omega
  have m2:¬(c.toNat=45):=by omega
  simp only[Lib.atoi,n1,n2,Bool.false_eq_true,if_false,Lib.decNat,List.isEmpty_cons,d1];simp only[Lib.parseIntB,Lib.parseUintB,if_neg m1];rw[if_neg (by simp),show (2 ^ 64-1:Nat)=18446744073709551615 from rfl,d2];have:¬(9223372036854775808<=n):=by omega
  simp[m2,this]
theorem nT:Lib.parseIntB 64 dA.data.toList=Lib.parseIntB 64 []/\Lib.parseIntB 64 eX.data.toList=Lib.parseIntB 64 []/\Lib.parseIntB 64 q8.data.toList=Lib.parseIntB 64 []/\Lib.parseIntB 64 none_.data.toList=Lib.parseIntB 64 []:=by
 refine⟨?_,?_,?_,?_⟩ <;> rfl
def LA(w:World):Prop:=∃ev,w.cell? ⟨4,0,none⟩=some ev/\(ev = .nilIface\/∃te pe,ev = .iface te pe)
theorem oX(w:World):Calls Tryz.prog 131 #[.bool true] w fun e w'=>e = .returned (.int .i64 1)/\w'=w:=iL true w
theorem Bt(w:World):Calls Tryz.prog 131 #[.bool false] w fun e w'=>e = .returned (.int .i64 0)/\w'=w:=iL false w
theorem wW{v:ByteArray}(hv:gP v=true)(w:World)(hg:LA w) :
 Calls Tryz.prog 106 #[.string v] w fun e w'=>e = .returned (.int .i64 (eN v))/\Below w.heap.size w w':=by
 have hcase:v=oE\/v=lQ\/((v.toList == [116,114,117,101])=false/\(v.toList == [102,97,108,115,101])=false/\v.size<=9/\((Lib.parseIntB 64 v.data.toList = .ok (eN v))\/(Lib.parseIntB 64 v.data.toList=Lib.parseIntB 64 []/\eN v=0))):=by
  unfold gP at hv;simp only[Bool.or_eq_true] at hv;have hno:∀x:ByteArray,v=x->bB x oE=false->bB x lQ=false->(v.toList == [116,114,117,101])=false/\(v.toList == [102,97,108,115,101])=false:=by
   rintro x rfl h1 h2;exact⟨(bP v [116,114,117,101]).symm.trans h1,(bP v [102,97,108,115,101]).symm.trans h2⟩
  rcases hv with ((((((h|h)|h)|h)|h)|h)|h)
  . have ht:bB v oE=false:=cP (by rintro rfl;exact absurd h (by decide))
    have hf:bB v lQ=false:=cP (by rintro rfl;exact absurd h (by decide));obtain⟨a,b⟩:=hno v rfl ht hf;refine .inr (.inr ⟨a,b,(nR h).2.1,.inl ?_⟩);rw[EH h];simp[eN,ht,h]
  . exact .inl (aZ.1 h)
  . exact .inr (.inl (aZ.1 h))
  . have:=aZ.1 h;subst this
    obtain⟨a,b⟩:=hno _ rfl (cP (by decide)) (cP (by decide));exact .inr (.inr ⟨a,b,by decide,.inr ⟨nT.1,by rw[eN,cP (by decide)];rfl⟩⟩)
  . have:=aZ.1 h;subst this
    obtain⟨a,b⟩:=hno _ rfl (cP (by decide)) (cP (by decide));exact .inr (.inr ⟨a,b,by decide,.inr ⟨nT.2.1,by rw[eN,cP (by decide)];rfl⟩⟩)
  . have:=aZ.1 h;subst this
    obtain⟨a,b⟩:=hno _ rfl (cP (by decide)) (cP (by decide));exact .inr (.inr ⟨a,b,by decide,.inr ⟨nT.2.2.1,by rw[eN,cP (by decide)];rfl⟩⟩)
  . have:=aZ.1 h;subst this
    obtain⟨a,b⟩:=hno _ rfl (cP (by decide)) (cP (by decide));exact .inr (.inr ⟨a,b,by decide,.inr ⟨nT.2.2.2,by rw[eN,cP (by decide)];rfl⟩⟩)
 rcases hcase with rfl|rfl|⟨h1,h2,h3,h4⟩
 . have hr:eN oE=1:=by rw[eN,aZ.2 rfl];rfl
   rw[hr];clear hv hg hr;go_enter Tryz.func106,Tryz.ntmps106;go_wp2_with fail
   refine (oX w).mono ?_;rintro e w1⟨rfl,rfl⟩;go_wp2;go_ret;exact⟨rfl,Below.refl _ _⟩
 . have hr:eN lQ=0:=by rw[eN,cP (by decide)];rfl
   rw[hr];clear hv hg hr;go_enter Tryz.func106,Tryz.ntmps106;go_wp2_with fail
   refine (Bt w).mono ?_;rintro e w1⟨rfl,rfl⟩;go_wp2;go_ret;exact⟨rfl,Below.refl _ _⟩
 . have HP:Hid (Calls Tryz.prog 132 #[.string v,.int .i64 10,.int .i64 64] w fun e w'=>(∃er,e = .returned (.tuple #[.int .i64 (eN v),er]))/\Below w.heap.size w w'):=hid (by
    rcases h4 with h4|⟨h4,h5⟩
    . refine (Tryz.strconv_ParseInt_10_at64_ok v (by omega) _ h4 w).mono ?_
      rintro e w'⟨rfl,hw⟩;refine⟨⟨_,rfl⟩,?_⟩;rcases hw with rfl|⟨t,rfl⟩
      . exact Below.refl _ _
      . exact Lib.bytesWorld_below _ _ _
    . obtain⟨ev,he1,he2⟩:=hg
      refine (Tryz.strconv_ParseInt_10_at64_no v (by omega) h4 ev w he1 he2).mono ?_;rintro e w'⟨N,rfl,_,_,hb⟩;exact⟨⟨_,by rw[h5]⟩,hb⟩)
   have hbd:=uN v;generalize eN v=z at HP hbd ⊢;clear hv hg h3 h4;obtain⟨hb0,hb1⟩:=hbd;go_enter Tryz.func106,Tryz.ntmps106;go_wp2_with fail
   refine HP.out.mono ?_;rintro e w1⟨⟨er,rfl⟩,hb⟩;have HB:=hid hb;clear hb;go_wp2;go_ret;exact⟨rfl,HB.out⟩
theorem u5(kd:ByteArray)(n:Int)(h0:0<=n)(h1:n<=999999999)(w:World)(hp:PT w.heap.size w) :
 Calls Tryz.prog 108 #[.string kd,.int .i64 n] w fun e w'=>e = .returned (.string (oL kd n))/\Below w.heap.size w w':=by
 obtain⟨a,ha⟩:∃a,a=bB kd fS:=⟨_,rfl⟩
 have hk:(kd.toList == [98,111,111,108])=a:=(bP kd [98,111,111,108]).symm.trans ha.symm;have hw:oL kd n=if a then (if n==1 then oE else lQ) else ⟨(Lib.itoa n).toArray⟩:=by unfold oL;rw[<-ha]
 rw[hw];clear ha hw;cases a
 . have HP:=hid hp
   obtain⟨s,hs⟩:∃s:ByteArray,s=⟨(Lib.itoa n).toArray⟩:=⟨_,rfl⟩
   simp only[Bool.false_eq_true,if_false];rw[<-hs];have HF:=hid (Tryz.strconv_FormatInt_10 n (by omega) (by omega) w (Lib.TabBelow.here hp));rw[<-hs] at HF;clear hp hs;go_enter Tryz.func108,Tryz.ntmps108;go_wp2_with fail
   refine HF.out.mono ?_;rintro e w1⟨rfl,k,os,rfl⟩;have HB:=hid (cH w k os);go_wp2;go_ret;exact⟨rfl,HB.out⟩
 . simp only[if_true]
   clear hp;cases h:(n==1) with
   | false=>
    have HF:=hid (Tryz.strconv_FormatBool false w);simp only[Bool.false_eq_true,if_false];go_enter Tryz.func108,Tryz.ntmps108;go_wp2_with fail
    refine (oX w).mono ?_;rintro e w1⟨rfl,rfl⟩;go_wp2_with fail
    refine HF.out.mono ?_;rintro e w2⟨rfl,rfl⟩;go_wp2;go_ret;exact⟨rfl,Below.refl _ _⟩
   | true=>
    have HF:=hid (Tryz.strconv_FormatBool true w);simp only[if_true];go_enter Tryz.func108,Tryz.ntmps108;go_wp2_with fail
    refine (oX w).mono ?_;rintro e w1⟨rfl,rfl⟩;go_wp2_with fail
    refine HF.out.mono ?_;rintro e w2⟨rfl,rfl⟩;go_wp2;go_ret;exact⟨rfl,Below.refl _ _⟩
end Go.Proofs.YthibodlojlkppaaGreatDoor
namespace Go.Proofs.YthibodlojlkppaaGreatDoor
open Go.RowKit
abbrev put3(w:World)(b:Nat)(v0 v1 v2:Value):World:=((w.setCell ⟨b,0,none⟩ v0).setCell ⟨b,1,none⟩ v1).setCell ⟨b,2,none⟩ v2
theorem RP.other{toks:List Tok}{rb tb cap a nest:Nat}{no:Bool}{w:World}(h:RP toks rb tb cap a nest no w.heap){b i:Nat}(h1:b≠rb)(h2:b≠tb)(v:Value):RP toks rb tb cap a nest no (w.setCell ⟨b,i,none⟩ v).heap:=by
 obtain⟨cur,hc,ht⟩:=h.t;exact⟨h.ne,(aD (Ne.symm h1) _).trans h.p,cur,(aD (Ne.symm h2) _).trans hc,ht⟩
structure DS (toks:List Tok) (rb tb cap:Nat) (w wr:World) (c nest:Nat) (no:Bool):Prop where
 pl:rb<w.heap.size
 tl:tb<w.heap.size
 rp:RP toks rb tb cap c nest no wr.heap
 fr:Fr [rb] w wr
section
variable {toks:List Tok} {rb tb cap c nest:Nat} {no:Bool} {w wr w':World}
theorem DS.refl(h:RP toks rb tb cap c nest no w.heap):DS toks rb tb cap w w c nest no:=by
 have h0:=h.t;obtain⟨cur,hc,_⟩:=h0;exact⟨aB h.p,aB hc,h,Fr.refl _ _⟩
theorem DS.alloc(h:DS toks rb tb cap w wr c nest no)(o:Obj):DS toks rb tb cap w (wr.alloc o) c nest no:=
 ⟨h.pl,h.tl,h.rp.below ((Below.refl _ _).alloc (Nat.le_refl _) _),h.fr.alloc _⟩
theorem DS.below(h:DS toks rb tb cap w wr c nest no)(hb:Below wr.heap.size wr w'):DS toks rb tb cap w w' c nest no:=⟨h.pl,h.tl,h.rp.below hb,h.fr.trans (Fr.of_below hb)⟩
theorem DS.set(h:DS toks rb tb cap w wr c nest no){b:Nat}(hb:w.heap.size<=b)(i:Nat)(v:Value):DS toks rb tb cap w (wr.setCell ⟨b,i,none⟩ v) c nest no:=
 ⟨h.pl,h.tl,h.rp.other (by have:=h.pl;omega) (by have:=h.tl;omega) v,h.fr.setCell _ (.inr hb) _⟩
theorem DS.put(h:DS toks rb tb cap w wr c nest no){b:Nat}(hb:w.heap.size<=b)(v0 v1 v2:Value):DS toks rb tb cap w (put3 wr b v0 v1 v2) c nest no:=((h.set hb 0 v0).set hb 1 v1).set hb 2 v2
theorem DS.drew(h:DS toks rb tb cap w wr c nest no):DS toks rb tb cap w wr.drew c nest no:=⟨h.pl,h.tl,h.rp,h.fr.drew⟩
theorem DS.at(h:DS toks rb tb cap w wr c nest no)(b:Nat):DS toks rb tb cap w (wr.setCell ⟨rb,1,none⟩ (.int .i64 b)) b nest no:=⟨h.pl,h.tl,h.rp.at b,h.fr.setCell _ (.inl (by simp)) _⟩
end
theorem cY.drew{K:Nat->Prop}{a b:World}(h:cY K a b):cY K a b.drew:=⟨h.size,h.block⟩
theorem cY.put3{K:Nat->Prop}{a b:World}(h:cY K a b){p:Nat}(hp:¬K p)(v0 v1 v2:Value):cY K a (put3 b p v0 v1 v2):=((h.set (p:=⟨p,0,none⟩) hp v0).set (p:=⟨p,1,none⟩) hp v1).set (p:=⟨p,2,none⟩) hp v2
def RI(K:Nat->Prop)(w:World)(at_:Int)(word nm ty:ByteArray)(e:Value)(i:It):Prop:=
 at_=i.num/\nm=i.name/\i.name.size<=8/\((i.kind=0/\word=⟨#[117,115,101]⟩/\i.ex = .nilIface)\/
  (((i.kind=1/\word=⟨#[108,101,116]⟩)\/(i.kind=2/\word=⟨#[112,117,98]⟩))/\ty=i.typ/\(i.typ=⟨#[105,110,116]⟩\/i.typ=⟨#[98,111,111,108]⟩)/\∃n,n<=401/\ME K w n e i.ex))
theorem RI.mono{K J:Nat->Prop}{w:World}{at_:Int}{word nm ty:ByteArray}{e:Value}{i:It}(h:RI K w at_ word nm ty e i)(hJ:∀k,k<w.heap.size->K k->J k):RI J w at_ word nm ty e i:=by
 obtain⟨h1,h2,h3,h4|⟨h4,h5,h6,n,hn,hr⟩⟩:=h
 . exact⟨h1,h2,h3,.inl h4⟩
 . exact⟨h1,h2,h3,.inr ⟨h4,h5,h6,n,hn,Ga hr hJ⟩⟩
theorem RI.later{K:Nat->Prop}{w w':World}{at_:Int}{word nm ty:ByteArray}{e:Value}{i:It}(h:RI K w at_ word nm ty e i)(hl:cY K w w'):RI K w' at_ word nm ty e i:=by
 obtain⟨h1,h2,h3,h4|⟨h4,h5,h6,n,hn,hr⟩⟩:=h
 . exact⟨h1,h2,h3,.inl h4⟩
 . exact⟨h1,h2,h3,.inr ⟨h4,h5,h6,n,hn,Eh hr hl⟩⟩
def xU(K:Nat->Prop)(w:World):List It->List Value->Prop
 | [],xs=>xs = []
 | i::is,xs=>∃(at_:Nat) (word nm ty:ByteArray) (op:Int) (t:ByteArray) (ao:Option Addr) (m c:Nat) (ys:List Value),
  xs = [.int .i64 at_,.string word,.string nm,.string ty,.int .u8 op,.string t,.slice ao m c]++ys/\RI K w at_ word nm ty (.agg #[.int .u8 op,.string t,.slice ao m c]) i/\xU K w is ys
theorem xU.mono{K J:Nat->Prop}{w:World}(hJ:∀k,k<w.heap.size->K k->J k):∀{l:List It} {xs:List Value},xU K w l xs->xU J w l xs
 | [],_,h=>h
 | _::_,_,h=>by
  obtain⟨at_,word,nm,ty,op,t,ao,m,c,ys,h1,h2,h3⟩:=h;exact⟨at_,word,nm,ty,op,t,ao,m,c,ys,h1,h2.mono hJ,xU.mono hJ h3⟩
theorem xU.later{K:Nat->Prop}{w w':World}(hl:cY K w w'):∀{l:List It} {xs:List Value},xU K w l xs->xU K w' l xs
 | [],_,h=>h
 | _::_,_,h=>by
  obtain⟨at_,word,nm,ty,op,t,ao,m,c,ys,h1,h2,h3⟩:=h;exact⟨at_,word,nm,ty,op,t,ao,m,c,ys,h1,h2.later hl,xU.later hl h3⟩
theorem xU.snoc{K:Nat->Prop}{w:World}{i:It}{at_:Nat}{word nm ty:ByteArray}{op:Int}{t:ByteArray}{ao:Option Addr}{m c:Nat}(hi:RI K w at_ word nm ty (.agg #[.int .u8 op,.string t,.slice ao m c]) i) :
 ∀{l:List It} {xs:List Value},xU K w l xs->xU K w (l ++ [i]) (xs ++ [.int .i64 at_,.string word,.string nm,.string ty,.int .u8 op,.string t,.slice ao m c])
 | [],xs,h=>by
  have:xs = []:=h
  subst this;exact⟨at_,word,nm,ty,op,t,ao,m,c,[],rfl,hi,rfl⟩
 | _::_,xs,h=>by
  obtain⟨a2,word2,nm2,ty2,op2,t2,ao2,m2,c2,ys,rfl,h2,h3⟩:=h;refine⟨a2,word2,nm2,ty2,op2,t2,ao2,m2,c2,ys++_,?_,h2,xU.snoc hi h3⟩;simp
structure QS (toks:List Tok) (tb cap:Nat) (w wr:World) (a:Nat) (no:Bool) (v:Value) (acc:List It) (xs:List Value):Prop where
 tl:tb<w.heap.size
 lt:w.heap.size<wr.heap.size
 rp:RP toks w.heap.size tb cap a 0 no wr.heap
 bl:Below w.heap.size w wr
 own:wr.ownsRow (w.heap.size+1) 999999999 7 v acc.length xs
 its:xU (fun k=>w.heap.size<k/\v.ownBlock≠some k) wr acc xs
section
variable {toks:List Tok} {tb cap:Nat} {w wr:World} {a:Nat} {no:Bool} {v:Value} {acc:List It} {xs:List Value}
theorem QS.alloc(h:QS toks tb cap w wr a no v acc xs)(o:Obj):QS toks tb cap w (wr.alloc o) a no v acc xs:=
 ⟨h.tl,by have:=h.lt;simp;omega,h.rp.below ((Below.refl _ _).alloc (Nat.le_refl _) _),h.bl.alloc h.bl.size _,h.own.alloc _,xU.later ((cY.refl _ _).alloc _) h.its⟩
theorem QS.put(h:QS toks tb cap w wr a no v acc xs){w':World}{v':Value}{i:It}{at_:Nat}{word nm ty:ByteArray}{op:Int}{t:ByteArray}{ao:Option Addr}{m c:Nat}(hi:RI (fun k=>w.heap.size<k/\v.ownBlock≠some k) wr at_ word nm ty (.agg #[.int .u8 op,.string t,.slice ao m c]) i)
 (hown:w'.ownsRow (w.heap.size+1) 999999999 7 v' (acc.length+1) (xs ++ [.int .i64 at_,.string word,.string nm,.string ty,.int .u8 op,.string t,.slice ao m c])) (hg:wr.grownBy w' v.ownBlock) (hv:v'.ownBlock=v.ownBlock\/v'.ownBlock=some wr.heap.size) :
 QS toks tb cap w w' a no v' (acc ++ [i]) (xs ++ [.int .i64 at_,.string word,.string nm,.string ty,.int .u8 op,.string t,.slice ao m c]):=by
 have hlt:=fun k hk=>(h.own.lt k hk).1;have hb:∀k,k<w.heap.size+1->w'.heap[k]? = wr.heap[k]?:=fun k hk=>hg.block k (by have:=h.lt;omega) fun e=>by have:=hlt k e.symm;omega
 obtain⟨cur,hc,hcc⟩:=h.rp.t;have hl:cY (fun k=>w.heap.size<k/\v.ownBlock≠some k) wr w':=⟨hg.size,fun k hk hn=>hg.block k hk fun e=>hn.2 e.symm⟩
 have hnew:=xU.snoc hi h.its;have hm:xU (fun k=>w.heap.size<k/\v.ownBlock≠some k/\v'.ownBlock≠some k) wr _ _:=xU.mono (fun k hk hn=>⟨hn.1,hn.2,by
  rcases hv with e|e
  . rw[e];exact hn.2
  . rw[e];intro e2;have:=Option.some.inj e2;omega⟩) hnew
 exact⟨h.tl,Nat.lt_of_lt_of_le h.lt hg.size,⟨h.rp.ne,(hb _ (by omega)).trans h.rp.p,cur,(hb _ (by have:=h.tl;omega)).trans hc,hcc⟩,h.bl.grown hg h.bl.size (fun k hk=>by have:=hlt k hk;omega),by simpa using hown,
  xU.mono (fun k _ hn=>⟨hn.1,hn.2.2⟩) (xU.later (hl.mono fun k hn=>⟨hn.1,hn.2.1⟩) hm)⟩
end
end Go.Proofs.YthibodlojlkppaaGreatDoor
namespace Go.Proofs.YthibodlojlkppaaGreatDoor
open Go.RowKit Go.Sort
def cK(n:Nat):ByteArray:=⟨(Lib.decDigits n).toArray⟩
theorem fM(n:Nat):(⟨(Lib.itoa (n:Int)).toArray⟩:ByteArray)=cK n:=by
 unfold Lib.itoa cK;rw[if_neg (by omega)];simp
theorem wX(n:Nat):(Lib.decDigits n).length<=n+1:=by
 induction n using Nat.strongRecOn with
 | _ n ih=>
  rw[Lib.decDigits];split
  . simp
  . have:=ih (n / 10) (by omega)
    simp;omega
theorem dU(n:Nat):(cK n).size<=n+1:=by
 have h:(cK n).size=(Lib.decDigits n).length:=dT _;rw[h];exact wX n
def dV(n:ByteArray)(word nm:ByteArray):ByteArray:=((n++word)++nm)++⟨#[10]⟩
def dH(n:ByteArray)(word nm ty x:ByteArray):ByteArray:=((((((n++word)++nm)++⟨#[58]⟩)++ty)++⟨#[61]⟩)++x)++⟨#[10]⟩
def cat(ss:List ByteArray):ByteArray:=ss.foldl (· ++ ·) ⟨#[]⟩
theorem Hc(ss:List ByteArray)(s:ByteArray):cat (ss ++ [s])=cat ss++s:=by simp[cat]
def LB(i:It)(s:ByteArray):Prop:=i.num<=1000/\s.size<=200000/\
 ((i.kind=0/\i.ex = .nilIface/\s=dV (cK i.num) ⟨#[58,117,115,101,32]⟩ i.name)\/
  (∃sx,gZ i.ex sx/\((i.kind=1/\s=dH (cK i.num) ⟨#[58,108,101,116,32]⟩ i.name i.typ sx)\/(i.kind=2/\s=dH (cK i.num) ⟨#[58,112,117,98,32]⟩ i.name i.typ sx))))
theorem LB.ex{i:It}{s:ByteArray}(h:LB i s):i.ex = .nilIface\/∃T v,i.ex = .iface T v:=by
 obtain⟨_,_,⟨_,h,_⟩|⟨_,⟨T,v,_,_,h,_⟩,_⟩⟩:=h
 . exact .inl h
 . exact .inr ⟨T,v,h⟩
theorem Hd:∀(l:List It) (k j:Nat) (i:It),l[k]? = some i->j<5->(l.flatMap aP)[k*5+j]? = (aP i)[j]?
 | [],k,j,i,h,_=>by simp at h
 | a::r,0,j,i,h,hj=>by
  simp at h;subst h;rw[List.flatMap_cons,List.getElem?_append_left (by simp[aP];omega)];simp
 | a::r,k+1,j,i,h,hj=>by
  simp at h;rw[List.flatMap_cons,List.getElem?_append_right (by simp[aP];omega)];have:=Hd r k j i h hj
  rw[<-this];congr 1;simp[aP];omega
structure WT (items:List It) (ss:List ByteArray) (ao:Option Addr) (c:Nat) (fault:Value) (w wr:World) (k:Nat):Prop where
 bd:wF w.heap.size (w.heap.size+1) (Lib.strCells (cat (ss.take k))) wr
 bl:Below w.heap.size w wr
 pr:wr.heap[w.heap.size]? = some (.cells #[.slice ao items.length c,fault] 87)
 lt:w.heap.size+1<wr.heap.size
theorem WT.next{items:List It}{ss:List ByteArray}{ao:Option Addr}{c:Nat}{fault:Value}{w wr w':World}{k:Nat}(h:WT items ss ao c fault w wr k)(hk:k<ss.length){sk:ByteArray}{o:Obj}(ht:ss.take (k+1)=ss.take k ++ [ss[k]])(hs:ss[k]=sk)
 (ha:bZ w.heap.size (w.heap.size+1) (Lib.strCells (cat (ss.take k))) sk (wr.alloc o) w'):WT items ss ao c fault w w' (k+1):=by
 have hb:=h.bl.alloc (by have:=h.lt;omega) o;refine⟨?_,hb.trans ha.bl,?_,by have:=h.lt;have:=ha.bl.size;simp at this;omega⟩
 . rw[ht,hs,Hc,eH];exact ha.bd
 . exact ha.kt.get (aC _ h.pr) (by omega) (by decide)
theorem WT.cell{items:List It}{ss:List ByteArray}{ao:Option Addr}{c g:Nat}{fault:Value}{w wr:World}{k:Nat}(h:WT items ss ao c fault w wr k){cur:Array Value}(hg:w.heap[g]? = some (.cells cur 137 (0,0)))(hc:cur.toList.take (items.length*5)=items.flatMap aP){i:It}(hi:items[k]? = some i){j:Nat}{u:Value}(hj:(aP i)[j]? = some u) :
 wr.cell? ⟨g,k*5+j,none⟩=some u:=by
 have h1:=below_heap h.bl (aB hg) hg;have hj5:j<5:=by
  rcases Nat.lt_or_ge j 5 with h5|h5
  . exact h5
  . simp[aP,List.getElem?_eq_none (show [Value.int .i64 i.kind,.int .i64 i.num,.string i.name,.string i.typ,i.ex].length<=j by simpa using h5)] at hj
 have h2:=Hd items k j i hi hj5;rw[hj] at h2;have h3:=cX hc h2;rw[aA h1,<-Array.getElem?_toList,h3]
end Go.Proofs.YthibodlojlkppaaGreatDoor
namespace Go.Proofs.YthibodlojlkppaaGreatDoor
open Go.RowKit
theorem JR(w:World):Calls Tryz.prog 112 #[.int .u64 0] w fun e w'=>e = .returned (.int .i64 0)/\w'=w:=by
 go_enter Tryz.func112,Tryz.ntmps112;go_wp2;go_ret;refine⟨gD ?_,rfl⟩;have h8:Lib.len8 0=0:=by decide +kernel
 rw[h8];simp[wrap64]
theorem MP(w:World):Calls Tryz.prog 147 #[.int .u64 0] w fun e w'=>e = .returned (.int .i64 0)/\w'=w:=by
 go_enter Tryz.func147,Tryz.ntmps147;go_wp2_with fail
 refine (JR _).mono ?_;rintro e w1⟨rfl,rfl⟩;go_wp2;go_ret;exact⟨rfl,rfl⟩
theorem MQ(w:World):Calls Tryz.prog 158 #[.slice none 0 0,.int .i64 0,.int .i64 0] w fun e w'=>e = .returned (.tuple #[])/\w'=w:=by
 go_enter Tryz.func158,Tryz.ntmps158;go_wp2;refine wp_loop_rounds 1 ?_;rw[rounds_succ];go_wp2;go_end0
 exact⟨rfl,rfl⟩
theorem MR(w:World):Calls Tryz.prog 146 #[.slice none 0 0,.int .i64 0,.int .i64 0,.int .i64 0] w fun e w'=>e = .returned (.tuple #[])/\w'=w:=by
 go_enter Tryz.func146,Tryz.ntmps146;go_wp2;refine wp_loop_rounds 1 ?_;rw[rounds_succ];go_wp2_with fail
 refine (MQ _).mono ?_;rintro e w1⟨rfl,rfl⟩;go_wp2;refine bodyPost_ret (results_none rfl _ _ _) rfl ?_;exact⟨rfl,rfl⟩
theorem He(w:World):Calls Tryz.prog 126 #[.slice none 0 0] w fun e w'=>e = .returned (.tuple #[])/\w'=w:=by
 go_enter Tryz.func126,Tryz.ntmps126;go_wp2_with fail
 refine (MP _).mono ?_;rintro e w1⟨rfl,rfl⟩;go_wp2_with fail
 refine (MR _).mono ?_;rintro e w1⟨rfl,rfl⟩;go_wp2;go_end0
 exact⟨rfl,rfl⟩
end Go.Proofs.YthibodlojlkppaaGreatDoor
namespace Go.Proofs.YthibodlojlkppaaGreatDoor
open Go.RowKit Go.Sort
def lF(items:List It):List (List UInt8):=(items.filter fun i=>i.kind==2).map fun i=>i.name.data.toList
def CO(items:List It):List (List UInt8):=Lib.compact ((lF items).mergeSort fun x y=>decide (x<=y))
theorem xV(l:List It)(i:It):lF (l ++ [i])=lF l++(if i.kind==2 then [i.name.data.toList] else []):=by
 unfold lF;rw[List.filter_append,List.map_append];congr 1;cases h:i.kind==2 <;> simp[h]
theorem Bu(l:List It):(lF l).length<=l.length:=by
 unfold lF;rw[List.length_map];exact List.length_filter_le _ _
theorem Bv(s:ByteArray):encStr s.data.toList = .string s:=by
 simp[encStr]
theorem JS:(Tryz.prog.info? 9).map (fun i=>(i.zero,i.size,i.bytes))=some (some (.string ⟨#[]⟩),1,16):=by kernel_rfl
theorem one_cell(w:World)(b:Nat)(hb:b=w.heap.size)(x:Value)(T:TypeId):∀j u,[x][j]? = some u->(w.alloc (.cells #[x] T)).cell? ((⟨b,0,none⟩:Addr).add j)=some u:=by
 subst hb;exact cell_one_new w x T
structure EX (items:List It) (ao:Option Addr) (c:Nat) (fault:Value) (w wr:World) (k:Nat) (v:Value):Prop where
 bl:Below w.heap.size w wr
 pr:wr.heap[w.heap.size]? = some (.cells #[.slice ao items.length c,fault] 87)
 own:wr.ownsRow (w.heap.size+1) 9 1 v (lF (items.take k)).length ((lF (items.take k)).map encStr)
theorem EX.lt{items:List It}{ao:Option Addr}{c:Nat}{fault:Value}{w wr:World}{k:Nat}{v:Value}(h:EX items ao c fault w wr k v):w.heap.size<wr.heap.size:=aB h.pr
theorem EX.shape{items:List It}{ao:Option Addr}{c:Nat}{fault:Value}{w wr:World}{k:Nat}{v:Value}(h:EX items ao c fault w wr k v):∃ao m c,v = .slice ao m c:=by
 obtain⟨_,⟨h,_⟩|⟨g,c,_,h,_⟩⟩:=h.own
 . exact⟨none,0,0,h⟩
 . exact⟨_,_,_,h⟩
theorem EX.cell{items:List It}{ao:Option Addr}{c g:Nat}{fault:Value}{w wr:World}{k:Nat}{v:Value}(h:EX items ao c fault w wr k v){cur:Array Value}(hg:w.heap[g]? = some (.cells cur 137 (0,0)))(hc:cur.toList.take (items.length*5)=items.flatMap aP){i:It}(hi:items[k]? = some i){j:Nat}{u:Value}(hj:(aP i)[j]? = some u) :
 wr.cell? ⟨g,k*5+j,none⟩=some u:=by
 have h1:=below_heap h.bl (aB hg) hg;have hj5:j<5:=by
  rcases Nat.lt_or_ge j 5 with h5|h5
  . exact h5
  . simp[aP,List.getElem?_eq_none (show [Value.int .i64 i.kind,.int .i64 i.num,.string i.name,.string i.typ,i.ex].length<=j by simpa using h5)] at hj
 have h2:=Hd items k j i hi hj5;rw[hj] at h2;have h3:=cX hc h2;rw[aA h1,<-Array.getElem?_toList,h3]
theorem EX.skip{items:List It}{ao:Option Addr}{c:Nat}{fault:Value}{w wr:World}{k:Nat}{v:Value}(h:EX items ao c fault w wr k v)(hk:k<items.length){i:It}(hi:items[k]? = some i)(hn:(i.kind==2)=false)(o:Obj):EX items ao c fault w (wr.alloc o) (k+1) v:=by
 have e:items.take (k+1)=items.take k ++ [i]:=by rw[List.take_add_one,hi];rfl
 refine⟨h.bl.alloc (Nat.le_of_lt h.lt) _,aC _ h.pr,?_⟩;rw[e,xV,hn];simpa using h.own.alloc o
theorem EX.put{items:List It}{ao:Option Addr}{c:Nat}{fault:Value}{w wr w':World}{k:Nat}{v v':Value}(h:EX items ao c fault w wr k v)(hk:k<items.length){i:It}(hi:items[k]? = some i)(hn:(i.kind==2)=true)
 (hown:w'.ownsRow (w.heap.size+1) 9 1 v' ((lF (items.take k)).length+1) ((lF (items.take k)).map encStr ++ [.string i.name])) (hg:wr.grownBy w' v.ownBlock):EX items ao c fault w w' (k+1) v':=by
 have e:items.take (k+1)=items.take k ++ [i]:=by rw[List.take_add_one,hi];rfl
 have hlt:=fun k hk=>(h.own.lt k hk).1;refine⟨h.bl.grown hg (Nat.le_of_lt h.lt) (fun k hk=>by have:=hlt k hk;omega),?_,?_⟩
 . exact (hg.block _ h.lt fun e=>by have:=hlt _ e.symm;omega).trans h.pr
 . rw[e,xV,hn]
   simpa[Bv] using hown
theorem EX.alloc{items:List It}{ao:Option Addr}{c:Nat}{fault:Value}{w wr:World}{k:Nat}{v:Value}(h:EX items ao c fault w wr k v)(o:Obj):EX items ao c fault w (wr.alloc o) k v:=
 ⟨h.bl.alloc (Nat.le_of_lt h.lt) _,aC _ h.pr,h.own.alloc _⟩
def JT(E:List (List UInt8))(w:World):Ending->World->Prop:=fun e w'=>
 Below w.heap.size w w'/\∃c,(E = []/\e = .returned (.slice none 0 c))\/(∃g,e = .returned (.slice (some ⟨g,0,none⟩) E.length c)/\E.length<=c/\(w.heap.size<=g/\∃cs,w'.heap[g]? = some (.cells cs 9))/\∀(j:Nat) x,E[j]? = some x->w'.cell? ⟨g,j,none⟩=some (.string ⟨x.toArray⟩))
theorem sF{B g:Nat}{a w w':World}(h:Below B a w)(hg:w.grownBy w' (some g))(hB:B<=w.heap.size)(hr:B<=g):Below B a w':=h.grown hg hB (fun k hk=>by cases hk;exact hr)
theorem z8{B g:Nat}{a w:World}(h:Below B a w)(hg:B<=g)(q off:Nat)(d:Array (List UInt8)):Below B a (putRow encStr (Sort.ahead w q) g off d):=by
 refine⟨h.os,h.tape,h.output,by simpa[Sort.ahead] using h.size,fun k hk=>?_⟩;rw[<-h.block k hk];have:g≠k:=by omega
 simp[putRow,mapBlock,Sort.ahead,Array.getElem?_modify,this]
theorem Bw{w:World}{b:Nat}{cs:Array Value}{T:TypeId}(h:w.heap[b]? = some (.cells cs T))(F:Array Value->Array Value):∃cs2,(mapBlock w b F).heap[b]? = some (.cells cs2 T):=by
 have hl:=aB h;refine⟨F cs,?_⟩;simp[mapBlock,Array.getElem?_modify,h,onCells]
theorem CP(items:List It)(hn:items.length<=401)(hex:∀i∈items,i.ex = .nilIface\/∃T v,i.ex = .iface T v)(fault:Value)(ao:Option Addr)(c:Nat)(w:World)
 (hao:0<items.length->∃g cur,ao=some ⟨g,0,none⟩/\w.heap[g]? = some (.cells cur 137 (0,0))/\cur.toList.take (items.length*5)=items.flatMap aP) :
 Calls Tryz.prog 98 #[.agg #[.slice ao items.length c,fault]] w (JT (CO items) w):=by
 obtain⟨i0,hi0,hz0,hz1,hz2⟩:=info_parts JS;have k0:(w.alloc (.cells #[.slice ao items.length c,fault] 87)).cell? ⟨w.heap.size,0,none⟩=some (.slice ao items.length c):=aA (i:=0) (aI w _);have HAO:=hid hao;have HEX:=hid hex;have HE0:Hid (EX items ao c (fault) w (w.alloc (.cells #[.slice ao items.length c,fault] 87)) 0 (.slice none 0 0)):=hid
  ⟨(Below.refl _ _).alloc (Nat.le_refl _) _,aI _ _,World.ownsRow_nil _ _ _ _⟩
 clear hao hex;go_enter Tryz.func98,Tryz.ntmps98;go_wp2;go_loopg [3,9] items.length (fun f v v8 wr=>∃k,k+f=items.length/\v8 = .int .i64 (k:Nat)/\EX items ao c (fault) w wr k v)
 case atStart=>exact⟨0,by omega,rfl,HE0.out⟩
 case round=>
  clear HE0 k0;obtain⟨k,hk,rfl,hext⟩:=hrel;obtain⟨no,nm,nc,rfl⟩:=hext.shape;have HT:=hid hext;clear hext;by_cases hlt:k<items.length
  . obtain⟨g,cur,rfl,hg,hc⟩:=HAO.out (by omega)
    have hi:=List.getElem?_eq_getElem hlt;have hexi:=HEX.out items[k] (List.getElem_mem hlt);generalize hii:items[k]=i at hi hexi;obtain⟨ik,inum,inm,ity,iex⟩:=i;simp only at hexi;have z0:=HT.out.cell hg hc hi (j:=0) rfl;have z1:=HT.out.cell hg hc hi (j:=1) rfl;have z2:=HT.out.cell hg hc hi (j:=2) rfl;have z3:=HT.out.cell hg hc hi (j:=3) rfl;have z4:=HT.out.cell hg hc hi (j:=4) rfl;rw[Nat.add_zero] at z0;have hlt2:(k:Int)<(items.length:Int):=by omega
    have hkc:(0:Int)<=(k:Int):=by omega
    have HI:=hid hi;clear hg hc hi hii;have hown0:=HT.out.own;have HLEN:=hid (Bu (items.take k));rcases hexi with rfl|⟨T,u,rfl⟩
    all_goals
     cases h2:(ik==2) with
     | false=>
      have hi2:¬((ik:Int)=2):=by
       rw[beq_eq_false_iff_ne] at h2;omega
      have hb2:((ik:Int)==2)=false:=by rw[beq_eq_false_iff_ne];exact hi2
      have HN2:=hid h2;clear h2 hown0;go_wp2;go_roundg (items.length-(k+1))
      case rel=>exact⟨k+1,by omega,by go_num,HT.out.skip hlt HI.out HN2.out _⟩
      case measure=>omega
     | true=>
      have hi2:((ik:Int)=2):=by
       rw[beq_iff_eq] at h2;omega
      have hb2:((ik:Int)==2)=true:=by rw[beq_iff_eq];exact hi2
      have HN2:=hid h2;have HOB:=HT.out.lt;clear h2;go_wp2_with (at_builtin;go_must (refine wpList_append_own _ rfl _ _ 25 rfl (w.heap.size+1) 9 i0 (.string ⟨#[]⟩) 1 16 Tryz.underlying25 hi0 hz0 hz1 hz2 rfl (by decide) _ _ _ rfl ((hown0.alloc _).alloc _) ⟨_,0,none⟩ 1 1 [.string inm] rfl rfl (one_cell _ _ (by simp) _ _) ?c2 ?c3 ?c4 ?c5 ?_))
      case c2=>rfl
      case c3=>have:=HLEN.out;simp only[List.length_take] at this;unfold maxLen;omega
      case c4=>have:=HLEN.out;simp only[List.length_take] at this;omega
      case c5=>first|omega|(simp;omega)
      intro v' w4 hown' hgrow _;have ht4:=((HT.out.alloc _).alloc _).put hlt HI.out HN2.out hown' hgrow;obtain⟨ao',m',c',rfl⟩:=ht4.shape;have HT4:=hid ht4;clear ht4 hown' hgrow hown0;go_wp2;go_roundg (items.length-(k+1))
      case rel=>exact⟨k+1,by omega,by go_num,HT4.out⟩
      case measure=>omega
  . have hke:k=items.length:=by omega
    subst hke;have hown:=HT.out.own;rw[List.take_length] at hown;have HBL:=hid HT.out.bl;have HLT:=HT.out.lt;have HPL:=hid (Bu items);obtain⟨hl,⟨hv,h0⟩|⟨g,cap,cur,hv,hB,hg,h1,h2,h3,h4⟩⟩:=hown
    . have e1:=(Value.slice.inj hv).1
      have e2:=(Value.slice.inj hv).2.1;have e3:=(Value.slice.inj hv).2.2;subst e1;subst e2;subst e3;have hE:CO items = []:=by
       have:lF items = []:=List.eq_nil_of_length_eq_zero h0
       unfold CO;rw[this,List.mergeSort_nil];rfl
      have HEE:=hid hE;clear hv hl h0 hE HT;go_wp2_with fail
      refine (He _).mono ?_;rintro e w1⟨rfl,rfl⟩;go_wp2_with fail
      refine (Tryz.slices_Compact_string_empty none 0 _).mono ?_;rintro e w2⟨rfl,rfl⟩;go_wp2;go_ret;exact⟨HBL.out,0,.inl ⟨HEE.out,rfl⟩⟩
    . have e1:=(Value.slice.inj hv).1
      have e2:=(Value.slice.inj hv).2.1;have e3:=(Value.slice.inj hv).2.2;subst e1;subst e2;subst e3;have hH:=holds_of_block (ss:=lF items) hg (by simpa using h4);have HH:=hid hH;have HG:=hid hg;have HOS:=hid (fun (n:Nat) (os:Array Obj) (ts:List (List UInt8)) (hts:ts.length=(lF items).length)=>ownsRow_sorted (w:=wr) (base:=w.heap.size+1) (n:=n) (os:=os) (ts:=ts) hts hB hg h1 h2 h3);have hglt:=aB hg;have hle:(lF items).length<=nc:=h1;have HGB:=hid hB;clear hv hl h2 h3 h4 hH hg hB HT h1;go_wp2_with fail
      refine (Tryz.slices_Sort_string g 0 nc (lF items) _ HH.out hglt (by have:=HPL.out;omega)).mono ?_;rintro e w1⟨rfl,n,os,hw1⟩;have hSl:((lF items).mergeSort fun x y=>decide (x<=y)).length=(lF items).length:=List.length_mergeSort _;have hown1:=HOS.out n os _ hSl;rw[<-hw1] at hown1;have hgb1:wr.grownBy w1 (some g):=by rw[hw1];exact grownBy_sorted _
      have HB1:=hid (sF HBL.out hgb1 (Nat.le_of_lt HLT) (by have:=HGB.out;omega));obtain⟨S,hS⟩:∃S,S=(lF items).mergeSort fun x y=>decide (x<=y):=⟨_,rfl⟩
      rw[<-hS] at hown1 hSl;have hE:CO items=Lib.compact S:=by rw[hS];rfl
      obtain⟨_,⟨hv1,_⟩|⟨g1,cap1,cur1,hv1,_,hg1,_,_,_,h41⟩⟩:=hown1
      . cases hv1
      . have q1:=(Addr.mk.inj (Option.some.inj (Value.slice.inj hv1).1)).1
        have q2:=(Value.slice.inj hv1).2.2;subst q1;subst q2;have HH1:=hid (holds_of_block (ss:=S) hg1 (by rw[hSl];simpa using h41));have hglt1:=aB hg1;have HG1:=hid hg1;have HEE:=hid hE;clear hw1 hgb1 hv1 hg1 h41 hE hS HH HG HOS;rw[<-hSl] at hle;go_wp2_with fail
        rw[<-hSl];refine (Tryz.slices_Compact_string g 0 nc S _ HH1.out (by have:=HPL.out;omega) hle).mono ?_;rintro e w2⟨rfl,q,hw2⟩;have hcl:=Lib.compact_length_le S;have HW2:=hid hw2;clear hw2;go_wp2;go_ret;rw[HEE.out];refine⟨?_,nc,.inr ⟨g,rfl,by omega,?_,?_⟩⟩
        . rw[HW2.out]
          exact z8 HB1.out (by have:=HGB.out;omega) _ _ _
        . refine⟨by have:=HGB.out;omega,?_⟩
          rw[HW2.out];exact Bw (w:=Sort.ahead w1 q) HG1.out _
        . intro j x hx
          have hj:j<(Lib.compact S).length:=(List.getElem?_eq_some_iff.1 hx).1;have hxe:=(List.getElem?_eq_some_iff.1 hx).2;have hsize:(Lib.compact S++List.replicate (S.length-(Lib.compact S).length) []).toArray.size=S.toArray.size:=by simp;omega
          have:=cell?_putRow encStr (Sort.ahead w1 q) g 0 S.toArray (Lib.compact S++List.replicate (S.length-(Lib.compact S).length) []).toArray HH1.out hsize j (by rw[hsize];simp;omega)
          rw[HW2.out];rw[Nat.zero_add] at this;rw[this,getElem!_pos _ j (by rw[hsize];simp;omega)];simp[encStr,List.getElem_append_left hj,hxe]
end Go.Proofs.YthibodlojlkppaaGreatDoor
namespace Go.Proofs.YthibodlojlkppaaGreatDoor
open Go.RowKit
variable [DecidableEq K] [LawfulBEq Lk]
theorem u6(its:List cL):(iQ its).length<=its.length:=by
 unfold iQ;rw[List.length_map];refine Nat.le_trans (Lib.compact_length_le _) ?_;rw[List.length_mergeSort];unfold mP;rw[List.length_map];exact List.length_filter_le _ _
theorem l9{s:ByteArray}(hs:s.size<=400){its:List cL}{fl:Option Nat}(h:(its,fl)=bY (aN s)):its.length<=401:=by
 have h1:=(dS (aN s)).2;have h2:=(oF s hs).1.le;rw[<-h] at h1;exact Nat.le_trans h1 h2
theorem nD{O:Nat->Prop}{w:World}{ao:Option Addr}{c:Nat}{l:List ByteArray}(h:Row O w 9 (.slice ao l.length c) l.length (l.map .string)):∀(i:Nat) t,l[i]? = some t->∃g,ao=some ⟨g,0,none⟩/\w.cell? ⟨g,i,none⟩=some (.string t):=by
 intro i t hi;have hlt:=(List.getElem?_eq_some_iff.1 hi).1;obtain⟨a,b,e,h1,h2⟩:=h;injection e with e1 e2 e3;obtain⟨g,cur,h3,h4,h5,h6⟩:=h2 (by omega);refine⟨g,e1.trans h3,?_⟩;have h7:(l.map Value.string)[i]? = some (.string t):=by rw[List.getElem?_map,hi];rfl
 have h8:=cX h6 h7;rw[aA h5,<-Array.getElem?_toList,h8]
theorem u7:∀l:List It,(l.flatMap aP).length=l.length*5
 | []=>rfl
 | i::l=>by
  rw[List.flatMap_cons,List.length_append,u7 l,List.length_cons];simp[aP];omega
theorem pO{L:aM}{w:World}{ao:Option Addr}{c:Nat}{its:List cL}(h:n5 L w ao c its):0<its.length->∃g cur,ao=some ⟨g,0,none⟩/\w.heap[g]? = some (.cells cur 137 (0,0))/\cur.toList.take (its.length*5)=(its.map cI).flatMap aP:=by
 intro hp;obtain⟨a,b,e,h1,h2⟩:=h;injection e with e1 e2 e3;obtain⟨g,cur,h3,h4,h5,h6⟩:=h2 hp;refine⟨g,cur,e1.trans h3,h5,?_⟩;rw[show its.length*5=((its.map cI).flatMap aP).length from ?_]
 . exact h6
 . rw[u7,List.length_map]
theorem Aa{L:aM}{w:World}{ao:Option Addr}{c:Nat}{its:List cL}(hT:n5 L w ao c its)(hn:its.length<=401)(nm:ByteArray)(fault:Value)(W:World)(hb:Below w.heap.size w W) :
 Calls Tryz.prog 100 #[.agg #[.slice ao its.length c,fault],.string nm] W fun e w'=>∃a2 c2,e = .returned (.slice a2 (aU nm its).length c2)/\w'.ownsRow (W.heap.size+1) 137 5 (.slice a2 (aU nm its).length c2) (aU nm its).length (((aU nm its).map cI).flatMap aP)/\Below W.heap.size W w':=by
 have h:=Ey nm (its.map cI) (by simpa using hn) (fun i hi=>by
  obtain⟨j,_,rfl⟩:=List.mem_map.1 hi;exact nQ j) fault ao c W (by
   have:=pO (Row.below hT hb)
   simpa using this)
 rw[List.length_map] at h;refine h.mono ?_;rintro e w'⟨v,rfl,hown,hb2⟩;rw[Ez,List.length_map] at hown;obtain⟨a2,c2,rfl⟩:=gX hown;exact⟨a2,c2,rfl,hown,hb2⟩
theorem EI{W0:World}{B bs lb:Nat}{fm:Value}{st0 st1:St V}{L0 L1:aM}{w0 w1:World}{lk1:List Lk}{E:eF V}(hE:dX W0 E bs fm)(hW:WS W0 B bs lb fm st0 L0 w0 st1 L1 lk1 w1){nm:ByteArray}{nc:Bool}{out:Out (V×List Lk)}{st':St V}{its:List cL}{fl:Value}{ao:Option Addr}{c:Nat}(hT:n5 L1 w1 ao c its)(hn:its.length<=401)
 (hr:run E nc (pE nm (fun r=>.ret (.s r)) (bS its []) none_) lk1 st1=some (out,st')) :
 Calls Tryz.prog 101 #[ptr bs,ptr lb,.agg #[.slice ao its.length c,fl],.string nm] w1 fun e w'=>(∃b,e = .returned (.string b))/\Hid (bM B st0 L0 bs lb fm 5 out st' w0 e w'):=by
 have HU:=hid (fun (W:World) (hb:Below w1.heap.size w1 W)=>GV its hn fl ao c W (pO (Row.below hT hb)));have HW:=hid hW;have HR:=hid hr;clear hW hr hT;go_enter Tryz.func101,Tryz.ntmps101;go_wp2_with fail
 refine (HU.out _ (by first|exact Below.refl _ _|exact aG _ _)).mono ?_;rintro e w2⟨ua,uc,rfl,hown,hb⟩;obtain⟨fs,hfs⟩:∃fs,fs=bS its []:=⟨_,rfl⟩
 rw[<-hfs] at hown HR ⊢;have hbb:=aF (aG w1 _) hb;have hlen:fs.length<=401:=by rw[hfs];have:=nS its [];simp at this;omega
 have HS0:=hid (HW.out.below hbb);have HF0:=hid (gW (O:=L1.own) hown fun g hg=>HW.out.e.lt (by simp at hg;omega));clear hown hb hbb HU HW hfs;go_wp2;go_loopg [9,15] fs.length (fun f vf vi wr=>∃(k:Nat) (found:ByteArray) (st:St V) (L:aM) (lk:List Lk),k+f=fs.length/\vf = .string found/\vi = .int .i64 (k:Nat)/\WS W0 B bs lb fm st0 L0 w0 st L lk wr/\Row L.own wr 9 (.slice ua fs.length uc) fs.length (fs.map .string)/\run E nc (pE nm (fun r=>.ret (.s r)) (fs.drop k) found) lk st=some (out,st'))
 case atStart=>exact⟨0,none_,st1,L1,lk1,by omega,rfl,rfl,HS0.out,HF0.out,HR.out⟩
 case round=>
  clear HS0 HF0 HR;obtain⟨k,found,st,L,lk,hk,rfl,rfl,hW,hF,hr⟩:=hrel;have hkc:(0:Int)<=(k:Int):=by omega
  by_cases hlt:k<fs.length
  . have hlt2:(k:Int)<(fs.length:Int):=by omega
    obtain⟨fk,hfk⟩:∃fk,fs[k]? = some fk:=⟨fs[k],List.getElem?_eq_getElem hlt⟩
    have hd:fs.drop k=fk::fs.drop (k+1):=by
     rw[List.drop_eq_getElem_cons hlt];congr 1;rw[List.getElem?_eq_getElem hlt] at hfk;injection hfk
    rw[hd] at hr;obtain⟨xs,lk2,st2,hm,hr⟩:=GC hr;obtain⟨g,rfl,hc⟩:=nD hF k fk hfk;have HX:=hid (Bf hE hW hm);have HWW:=hid hW;have HF:=hid hF;have HR:=hid hr;have HK:=hid hk;clear hW hF hm hr hfk hd hk;go_wp2_with fail
    refine HX.out.mono ?_;rintro e w3⟨xa,xc,rfl,L3,hg,hrow,s,hs,hxs⟩;have hxl:xs.length<=1099511627776:=by
     rw[hxs];have h1:=u6 (bY (aN s)).1;have h2:=(dS (aN s)).2;have h3:=(oF s hs).1.le;omega
    have HCO:=hid (nA (c:=xc) hxl (nD hrow) nm);obtain⟨lv,hlb,_⟩:=HWW.out.k.blk;have HF3:=hid (HF.out.wnext hg.n hlb (by decide) (by decide));have HS3:=hid hg.s;clear hg hrow hs hxs hxl hlb HX HWW HF hc;go_wp2_with fail
    refine HCO.out.mono ?_;rintro e w4⟨rfl,m,hm4⟩;have hb4:Below w3.heap.size w3 w4:=by rw[hm4];exact below_drewN w3 m
    have HS4:=hid (HS3.out.below hb4);have HF4:=hid (Row.below HF3.out hb4);clear hm4 hb4 HS3 HF3 HCO;cases hmem:gL xs nm with
    | false=>
     have HR2:=HR.out;rw[hmem] at HR2;have HR2:=hid HR2;clear hmem HR;go_wp2;go_roundg (fs.length-(k+1))
     case rel=>exact⟨k+1,found,st2,L3,lk2,by have:=HK.out;omega,rfl,by go_num,HS4.out,HF4.out,HR2.out⟩
     case measure=>have:=HK.out;omega
    | true=>
     have HR2:=HR.out;rw[hmem] at HR2;simp only[if_true] at HR2;clear hmem HR;cases hfd:(found.toList == [110,111,110,101]) with
     | true=>
      rw[show bB found none_=true from (bP found [110,111,110,101]).trans hfd] at HR2;have HR3:=hid HR2;clear HR2;go_wp2;go_roundg (fs.length-(k+1))
      case rel=>exact⟨k+1,fk,st2,L3,lk2,by have:=HK.out;omega,rfl,by go_num,HS4.out,HF4.out,HR3.out⟩
      case measure=>have:=HK.out;omega
     | false=>
      rw[show bB found none_=false from (bP found [110,111,110,101]).trans hfd] at HR2;have HR3:=hid HR2;clear HR2;go_wp2;go_roundg (fs.length-(k+1))
      case rel=>exact⟨k+1,rY,st2,L3,lk2,by have:=HK.out;omega,rfl,by go_num,HS4.out,HF4.out,HR3.out⟩
      case measure=>have:=HK.out;omega
  . have hke:k=fs.length:=by omega
    have hlt2:¬((k:Int)<(fs.length:Int)):=by omega
    rw[hke,List.drop_length] at hr;obtain⟨rfl,rfl⟩:=eO hr;have HW2:=hid hW;clear hW hF hr;go_wp2;go_ret;exact⟨⟨_,rfl⟩,hid (HW2.out.doneS (kind:=5) (by decide) (by decide) (by decide) _)⟩
def Oj(W0:World)(B bs lb:Nat)(fm:Value)(st0:St V)(L0:aM)(w0:World)(st:St V)(L:aM)(w:World)(E:eF V)(nc:Bool)(out:Out (V×List Lk))(stE:St V)(c:ByteArray->Prog V):Ending->World->Prop:=fun e w'=>
 ∃t,e = .returned (.string t)/\Hid (∃L' lk' st',run E nc (c t) lk' st'=some (out,stE)/\mZ W0 B bs lb fm st0 L0 w0 st L w st' L' lk' w')
theorem mZ.trans{W0:World}{B bs lb:Nat}{fm:Value}{st0 st st1 st2:St V}{L0 L L1 L2:aM}{w0 w w1 w2:World}{lk1 lk2:List Lk}(h:mZ W0 B bs lb fm st0 L0 w0 st L w st1 L1 lk1 w1)(g:mZ W0 B bs lb fm st0 L0 w0 st1 L1 w1 st2 L2 lk2 w2):mZ W0 B bs lb fm st0 L0 w0 st L w st2 L2 lk2 w2:=⟨h.n.trans g.n,g.s⟩
theorem Hf{w:World}{B a c:Nat}{ao:Option Addr}{n:Nat}{l:List cL}(h:w.ownsRow B 137 5 (.slice ao n c) n ((l.map cI).flatMap aP))(hn:n=l.length){i:cL}(hi:l[a]? = some i){j:Nat}{u:Value}(hj:(aP (cI i))[j]? = some u):∃g,ao=some ⟨g,0,none⟩/\w.cell? ⟨g,a*5+j,none⟩=some u:=by
 have hlt:=(List.getElem?_eq_some_iff.1 hi).1;have hi2:(l.map cI)[a]? = some (cI i):=by rw[List.getElem?_map,hi];rfl
 have hj5:j<5:=by
  rcases Nat.lt_or_ge j 5 with h5|h5
  . exact h5
  . simp[aP,List.getElem?_eq_none (show [Value.int .i64 (cI i).kind,.int .i64 (cI i).num,.string (cI i).name,.string (cI i).typ,(cI i).ex].length<=j by simpa using h5)] at hj
 obtain⟨_,⟨h1,h0⟩|⟨g,c',cur,h1,h2,h3,h4,h5,h6,h7⟩⟩:=h
 . omega
 . injection h1 with e1 e2 e3
   have h8:=uL (l.map cI) a j (cI i) hi2 hj5;rw[hj] at h8;have h9:=cX h7 h8;exact⟨g,e1,by rw[aA h3,<-Array.getElem?_toList,h9]⟩
theorem MS{W0:World}{B bs lb:Nat}{fm:Value}{st0 st:St V}{L0 L:aM}{w0 w:World}{lk:List Lk}{E:eF V}(hE:dX W0 E bs fm)(hW:WS W0 B bs lb fm st0 L0 w0 st L lk w)(h0:w0.heap.size<=w.heap.size)(h00:W0.heap.size<=w0.heap.size){f nm:ByteArray}{c:ByteArray->Prog V}{nc:Bool}{out:Out (V×List Lk)}{st':St V}(hr:run E nc (xF f nm c) lk st=some (out,st')) :
 Calls Tryz.prog 103 #[ptr bs,ptr lb,.string f,.string nm] w (Oj W0 B bs lb fm st0 L0 w0 st L w E nc out st' c):=by
 obtain⟨g,lk1,st1,hm,hr⟩:=mY (by simp) hr;have HFI:=hid (GG hE hW hm);have HR:=hid hr;have H0:=hid h0;clear hW hr hm h0;go_enter Tryz.func103,Tryz.ntmps103;go_wp2_with fail
 refine HFI.out.mono ?_;rintro e w1⟨rfl,L1,hg1⟩;have HG1:=hid hg1;clear hg1 HFI;go_wp2_with fail
 refine (oW g w1).mono ?_;rintro e w2⟨rfl,rfl⟩;cases hfb:eM g with
 | false=>
  have hr:=HR.out;rw[hfb] at hr;simp only[Bool.false_eq_true,if_false] at hr;have HR2:=hid hr;clear hfb hr HR;go_wp2;go_ret;exact⟨_,rfl,hid ⟨L1,lk1,st1,HR2.out,HG1.out⟩⟩
 | true=>
  have hr:=HR.out;rw[hfb] at hr;simp only[if_true] at hr;obtain⟨its,fl,lk2,st2,hm,hr⟩:=lA hr;have HT:=hid (xG hE HG1.out.s (Nat.le_trans H0.out HG1.out.n.fr.size) h00 hm);have HR2:=hid hr;clear hfb hr HR hm;go_wp2_with fail
  refine HT.out.mono ?_;rintro e w3⟨ao,ac,rfl,L3,hg3,hrow,s,hs,hits⟩;have HG3:=hid (HG1.out.trans hg3);have HNA:=hid (Aa hrow (l9 hs hits) nm (cU fl) w3 (Below.refl _ _));clear hg3 hrow hs hits HT;go_wp2_with fail
  refine HNA.out.mono ?_;rintro e w4⟨a2,c2,rfl,hown,hb4⟩;have HG4:=hid (HG3.out.below hb4);obtain⟨l,hl⟩:∃l,l=aU nm its:=⟨_,rfl⟩
  have hr:=HR2.out;rw[<-hl] at hr hown ⊢;clear hl hb4 HNA HR2 HG3;cases l with
  | nil=>
   have HR3:=hid hr;clear hr hown;simp only[List.length_nil];go_wp2;go_ret;exact⟨_,rfl,hid ⟨L3,lk2,st2,HR3.out,HG4.out⟩⟩
  | cons i l=>
   cases l with
   | nil=>
    have HR3:=hid hr;obtain⟨gb,rfl,hc⟩:=Hf (a:=0) hown rfl rfl (j:=3) (u:=.string i.typ) rfl;clear hr hown;simp only[List.length_cons,List.length_nil];go_wp2;go_ret;exact⟨_,rfl,hid ⟨L3,lk2,st2,HR3.out,HG4.out⟩⟩
   | cons j l=>
    have HR3:=hid hr;simp only[List.length_cons] at hown ⊢;obtain⟨n,hn⟩:∃n,n=l.length+1+1:=⟨_,rfl⟩
    rw[<-hn];have h1:((n:Int)==1)=false:=by rw[beq_eq_false_iff_ne];omega
    clear hr hown hn;go_wp2;go_ret;exact⟨_,rfl,hid ⟨L3,lk2,st2,HR3.out,HG4.out⟩⟩
section
variable {W0:World} {E:eF V} {B bs lb:Nat} {fm:Value} {st0 st st1:St V} {L0 L:aM} {w0 w:World} {lk lk1:List Lk} {nc:Bool} {its:List cL} {fl:Option Nat}
def MU(W0:World)(B bs lb:Nat)(fm:Value)(st0:St V)(L0:aM)(w0:World)(st:St V)(L:aM)(w:World)(st1:St V)(lk1:List Lk)(its:List cL)(fl:Option Nat)(nm:ByteArray)(kb:Nat)(ko:Obj)(a2:Option Addr)(c2:Nat)(w2:World):Prop:=
 w2.heap[kb]? = some ko/\∃L',mZ W0 B bs lb fm st0 L0 w0 st L w st1 L' lk1 w2/\gV L' lb kb/\n5 L' w2 a2 c2 (aU nm its)/\∃s:ByteArray,s.size<=400/\(its,fl)=bY (aN s)
theorem xW(hE:dX W0 E bs fm)(hW:WS W0 B bs lb fm st0 L0 w0 st L lk w)(h0:w0.heap.size<=w.heap.size)(h00:W0.heap.size<=w0.heap.size){f nm:ByteArray}(hm:cE E nc ⟨3,f,bA⟩ lk st=some (.ok (.r its fl,lk1),st1)){z:Int}(hz:cU fl = .int .i64 z){A:World}(hA:Below w.heap.size w A){kb:Nat}{ko:Obj}(hk:A.heap[kb]? = some ko)(hkm:gV L lb kb)(hko:∀cs,ko ≠ .cells cs 169) :
 ∀W,iU A W->Calls Tryz.prog 41 #[ptr bs,ptr lb,.string f] W fun e w1=>∃ao c,e = .returned (.agg #[.slice ao its.length c,.int .i64 z])/\w1.heap[kb]? = some ko/\
  Hid (∀W2,iU w1 W2->Calls Tryz.prog 100 #[.agg #[.slice ao its.length c,.int .i64 z],.string nm] W2 fun e w2=>∃a2 c2,e = .returned (.slice a2 (aU nm its).length c2)/\Hid (MU W0 B bs lb fm st0 L0 w0 st L w st1 lk1 its fl nm kb ko a2 c2 w2)):=by
 intro W hW1;have hb:=aF hA hW1.below;refine (xG hE (hW.below hb) (Nat.le_trans h0 hb.size) h00 hm).mono ?_;rintro e w1⟨ao,c,rfl,L1,hg,hrow,s,hs,hits⟩;have hkW:W.heap[kb]? = some ko:=by rw[hW1.h];exact hk
 obtain⟨hk1,hkm1⟩:=hg.n.mine hkW hkm hko;rw[hz];refine⟨ao,c,rfl,hk1,hid fun W2 hW2=>?_⟩;refine (Aa hrow (l9 hs hits) nm (.int .i64 z) W2 hW2.below).mono ?_;rintro e w2⟨a2,c2,rfl,hown,hb2⟩;have hbb:=aF hW2.below hb2;refine⟨a2,c2,rfl,hid ⟨below_heap hbb (aB hk1) hk1,L1,(hg.lift hb).below hbb,hkm1,gW hown fun g hg2=>hg.s.e.lt (by have:=hW2.below.size;omega),s,hs,hits⟩⟩
theorem eJ{L:aM}{w:World}{a2:Option Addr}{c2:Nat}{l:List cL}(h:n5 L w a2 c2 l){a:Nat}{i:cL}(hi:l[a]? = some i){j:Nat}{u:Value}(hj:(aP (cI i))[j]? = some u):∃g,a2=some ⟨g,0,none⟩/\w.cell? ⟨g,a*5+j,none⟩=some u:=by
 have hlt:=(List.getElem?_eq_some_iff.1 hi).1;obtain⟨g,cur,h1,h2,h3⟩:=pO h (by omega);have hi2:(l.map cI)[a]? = some (cI i):=by rw[List.getElem?_map,hi];rfl
 have hj5:j<5:=by
  rcases Nat.lt_or_ge j 5 with h5|h5
  . exact h5
  . simp[aP,List.getElem?_eq_none (show [Value.int .i64 (cI i).kind,.int .i64 (cI i).num,.string (cI i).name,.string (cI i).typ,(cI i).ex].length<=j by simpa using h5)] at hj
 have h8:=uL (l.map cI) a j (cI i) hi2 hj5;rw[hj] at h8;have h9:=cX h3 h8;exact⟨g,h1,by rw[aA h2,<-Array.getElem?_toList,h9]⟩
theorem Bx{nm:ByteArray}{i:cL}{l:List cL}{s:ByteArray}(hs:s.size<=400)(hits:(its,fl)=bY (aN s))(hl:i::l=aU nm its){e:Ex}(he:i.ex=some e):dY e/\dC e<=401/\(i.typ=eP\/i.typ=fS):=by
 have hi:i∈aU nm its:=by rw[<-hl];simp
 obtain⟨h1,h2,h3⟩:=fX hi;have hit:its=(bY (aN s)).1:=by rw[<-hits]
 rw[hit] at h1;have hok:=(dS (aN s)).1 i h1;obtain⟨_,ht,e2,he2,hz,_⟩:=hok.let' h2;rw[he] at he2;cases he2;exact⟨uM i h1 e he,Nat.le_trans hz (oF s hs).1.le,ht⟩
end
theorem eE:∀(e:Ex) (l:List ByteArray),l.Nodup->(aL e l).Nodup
 | ⟨.inl _,_⟩,l,h=>h
 | ⟨.inr (.inl _),_⟩,l,h=>h
 | ⟨.inr (.inr (.inl t)),_⟩,l,h=>by
  simp only[aL,two,three];split
  . exact h
  . rename_i hn
    rw[List.nodup_append];exact⟨h,by simp,fun x hx y hy=>by
     simp at hy;subst hy;intro e;exact hn (lB.2 (e ▸ hx))⟩
 | ⟨.inr (.inr (.inr (.inl _))),s'⟩,l,h=>eE (s' true) _ (eE (s' false) l h)
 | ⟨.inr (.inr (.inr (.inr _))),s'⟩,l,h=>eE (s' (some true)) _ (eE (s' (some false)) _ (eE (s' none) l h))
theorem u9{l:List ByteArray}(h:l.Nodup){k:Nat}{x:ByteArray}(hk:l[k]? = some x):x∉l.take k:=by
 intro hm;have hlt:=(List.getElem?_eq_some_iff.1 hk).1;have e:l=l.take k++l.drop k:=(List.take_append_drop k l).symm;have hd:x∈l.drop k:=by
  rw[List.drop_eq_getElem_cons hlt,(List.getElem?_eq_some_iff.1 hk).2];exact List.mem_cons_self
 rw[e,List.nodup_append] at h;exact h.2.2 x hm x hd rfl
end Go.Proofs.YthibodlojlkppaaGreatDoor

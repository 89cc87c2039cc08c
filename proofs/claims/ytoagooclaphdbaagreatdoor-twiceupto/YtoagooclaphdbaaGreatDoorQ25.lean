/-
  Numbers as texts: what the program writes, and a text of digits without noughts ahead. The program's write: what each expr adds to a builder. Files' names; faults; worths read and written.
-/
import Derived.Test.YtoagooclaphdbaaGreatDoorQ03
import Derived.Test.YtoagooclaphdbaaGreatDoorQ06
import Derived.Test.YtoagooclaphdbaaGreatDoorQ07
import Derived.Test.YtoagooclaphdbaaGreatDoorQ09
import Derived.Test.YtoagooclaphdbaaGreatDoorQ21
import Derived.Test.YtoagooclaphdbaaGreatDoorQ24
import Derived.Lib.AppendIntMem
import Derived.Test.YtoagooclaphdbaaGreatDoorShelf2
set_option linter.unusedVariables false
set_option linter.unusedSimpArgs false
set_option maxRecDepth 100000
set_option maxHeartbeats 40000000

namespace Go.Proofs.YtoagooclaphdbaaGreatDoor
open Go.RowKit Go.Sort
theorem below_growN (w:World) (k:Nat) (os:Array Obj):Below w.heap.size w (grow (w.drewN k) os):=by
 refine ⟨rfl,rfl,rfl,?_,fun j hj => ?_⟩
 · show w.heap.size≤(w.heap ++ os).size
   rw [Array.size_append];omega
 · show (w.heap ++ os)[j]? = w.heap[j]?
   rw [Array.getElem?_append_left hj]
def dgs (l:List UInt8):Prop:=∀ x∈l,isDigB x.toNat=true
theorem digitVal_of {c:UInt8} (h:isDigB c.toNat=true):Lib.digitVal c=some (c.toNat - 48):=by
 simp only [isDigB,Bool.and_eq_true,decide_eq_true_eq] at h
 unfold Lib.digitVal
 rw [if_pos (by omega)]
theorem decFrom_snoc:∀ (l:List UInt8) (acc n:Nat) (c:UInt8),Lib.decFrom acc l=some n→isDigB c.toNat=true→Lib.decFrom acc (l ++ [c])=some (n * 10+(c.toNat - 48))
 | [],acc,n,c,h,hc=>by
  simp only [Lib.decFrom,Option.some.injEq] at h
  subst h
  simp [Lib.decFrom,digitVal_of hc]
 | b :: r,acc,n,c,h,hc=>by
  simp only [Lib.decFrom,List.cons_append] at h ⊢
  cases hb:Lib.digitVal b with
  | none=>rw [hb] at h;cases h
  | some d=>rw [hb] at h;exact decFrom_snoc r _ n c h hc
theorem decFrom_some:∀ (l:List UInt8) (acc:Nat),dgs l→∃ n,Lib.decFrom acc l=some n
 | [],acc,_=>⟨acc,rfl⟩
 | b :: r,acc,h=>by
  obtain ⟨n,hn⟩:=decFrom_some r (acc * 10+(b.toNat - 48)) (fun x hx=>h x (by simp [hx]))
  exact ⟨n,by simp [Lib.decFrom,digitVal_of (h b (by simp)),hn]⟩
theorem decFrom_ge:∀ (l:List UInt8) (acc n:Nat),Lib.decFrom acc l=some n→acc≤n
 | [],acc,n,h=>by simp only [Lib.decFrom,Option.some.injEq] at h;omega
 | b :: r,acc,n,h=>by
  simp only [Lib.decFrom] at h
  cases hb:Lib.digitVal b with
  | none=>rw [hb] at h;cases h
  | some d=>rw [hb] at h;have:=decFrom_ge r _ n h;omega
theorem strip_snoc:∀ (l:List UInt8) (n:Nat) (c:UInt8),l ≠ []→dgs l→Lib.decFrom 0 l=some n→strip (l ++ [c])=if n=0 then [c] else strip l ++ [c]
 | [],_,_,h,_,_=>absurd rfl h
 | [x],n,c,_,hd,hn=>by
  have hx:=hd x (by simp)
  simp only [Lib.decFrom,digitVal_of hx,Option.some.injEq] at hn
  simp only [isDigB,Bool.and_eq_true,decide_eq_true_eq] at hx
  by_cases h48:x.toNat=48
  · rw [if_pos (by omega)];simp [strip,h48]
  · rw [if_neg (by omega)];simp [strip,h48]
 | x :: y :: r,n,c,_,hd,hn=>by
  have hx:=hd x (by simp)
  have hr:dgs (y :: r):=fun z hz=>hd z (by simp [hz])
  by_cases h48:x.toNat=48
  · have hn2:Lib.decFrom 0 (y :: r)=some n:=by
     have e:Lib.decFrom 0 (x :: y :: r)=Lib.decFrom (0 * 10+(x.toNat - 48)) (y :: r):=by
      conv=>lhs;unfold Lib.decFrom
      rw [digitVal_of hx]
     rw [e,h48] at hn
     exact hn
    have:=strip_snoc (y :: r) n c (by simp) hr hn2
    have e1:strip (x :: y :: r ++ [c])=strip (y :: r ++ [c]):=by simp [strip,h48]
    have e2:strip (x :: y :: r)=strip (y :: r):=by simp [strip,h48]
    rw [e1,this,e2]
  · have hpos:n≠0:=by
     have e:Lib.decFrom 0 (x :: y :: r)=Lib.decFrom (0 * 10+(x.toNat - 48)) (y :: r):=by
      conv=>lhs;unfold Lib.decFrom
      rw [digitVal_of hx]
     rw [e] at hn
     have:=decFrom_ge _ _ _ hn
     simp only [isDigB,Bool.and_eq_true,decide_eq_true_eq] at hx
     omega
    rw [if_neg hpos]
    simp [strip,h48]
theorem u8_back {c:UInt8} (h:isDigB c.toNat=true):UInt8.ofNat (48+(c.toNat - 48))=c:=by
 simp only [isDigB,Bool.and_eq_true,decide_eq_true_eq] at h
 rw [show 48+(c.toNat - 48)=c.toNat from by omega]
 simp
theorem decDigits_strip (k:Nat):∀ (l:List UInt8) (n:Nat),l.length≤k→l ≠ []→dgs l→Lib.decFrom 0 l=some n→Lib.decDigits n=strip l:=by
 induction k with
 | zero=>intro l n h hne;exact absurd (List.eq_nil_of_length_eq_zero (by omega)) hne
 | succ k ih =>
  intro l n hk hne hd hn
  obtain ⟨r,c,rfl⟩:∃ r c,l=r ++ [c]:=⟨l.dropLast,l.getLast hne,(List.dropLast_concat_getLast hne).symm⟩
  have hc:=hd c (by simp)
  have hdr:dgs r:=fun x hx=>hd x (by simp [hx])
  obtain ⟨m,hm⟩:=decFrom_some r 0 hdr
  have e:=decFrom_snoc r 0 m c hm hc
  rw [hn,Option.some.injEq] at e
  have hc2:=hc
  simp only [isDigB,Bool.and_eq_true,decide_eq_true_eq] at hc2
  by_cases hr:r = []
  · subst hr
    simp only [Lib.decFrom,Option.some.injEq] at hm
    subst hm
    rw [Lib.decDigits,dif_pos (by omega),e,Nat.zero_mul,Nat.zero_add,u8_back hc]
    rfl
  · rw [strip_snoc r m c hr hdr hm]
    by_cases hz:m=0
    · rw [if_pos hz,Lib.decDigits,dif_pos (by omega),e,hz,Nat.zero_mul,Nat.zero_add,u8_back hc]
    · rw [if_neg hz,Lib.decDigits,dif_neg (by omega),show n / 10=m from by omega,show n % 10=c.toNat - 48 from by omega,u8_back hc,ih r m (by simp at hk;omega) hr hdr hm]
theorem itoa_strip {t:ByteArray} (h:numB t=true):0≤numVal t∧numVal t≤9223372036854775807∧(⟨(Lib.itoa (numVal t)).toArray⟩:ByteArray)=stripT t:=by
 obtain ⟨h1,h2,h3⟩:=num_all h
 have hl:t.data.toList.length=t.size:=by simp
 have hne:t.data.toList ≠ []:=by
  intro e;rw [e] at hl;simp at hl;omega
 have hd:dgs t.data.toList:=fun x hx=>h3 x hx
 obtain ⟨n,hn⟩:=decFrom_some t.data.toList 0 hd
 have hv:numVal t=(n:Int):=by
  have ha:=(num_atoi h).2
  cases hc:t.data.toList with
  | nil=>exact absurd hc hne
  | cons x r =>
   have hx:=hd x (by rw [hc];simp)
   simp only [isDigB,Bool.and_eq_true,decide_eq_true_eq] at hx
   have n1:(x == 45)=false:=by
    rw [beq_eq_false_iff_ne];rintro rfl;simp at hx
   have n2:(x == 43)=false:=by
    rw [beq_eq_false_iff_ne];rintro rfl;simp at hx
   rw [hc] at ha hn
   unfold Lib.atoi at ha
   simp [n1,n2,Lib.decNat,hn] at ha
   exact ha.symm
 have hlen:n < 10 ^ 18:=by
  have:∀ (l:List UInt8) (acc m:Nat),dgs l→Lib.decFrom acc l=some m→m < (acc+1) * 10 ^ l.length:=by
   intro l
   induction l with
   | nil=>intro acc m _ h;simp only [Lib.decFrom,Option.some.injEq] at h;simp;omega
   | cons b r ih =>
    intro acc m hd h
    have hb:=hd b (by simp)
    simp only [Lib.decFrom,digitVal_of hb] at h
    have:=ih _ m (fun x hx=>hd x (by simp [hx])) h
    simp only [isDigB,Bool.and_eq_true,decide_eq_true_eq] at hb
    have e:(acc * 10+(b.toNat - 48)+1) * 10 ^ r.length≤(acc+1) * 10 ^ (r.length+1):=by
     rw [Nat.pow_succ,←Nat.mul_assoc,Nat.mul_right_comm]
     exact Nat.mul_le_mul_right _ (by omega)
    simp only [List.length_cons]
    omega
  have:=this _ 0 n hd hn
  have h9:10 ^ t.data.toList.length≤10 ^ 18:=Nat.pow_le_pow_right (by omega) (by omega)
  omega
 refine ⟨by omega,by omega,?_⟩
 unfold stripT
 rw [hv]
 have:Lib.itoa (n:Int)=Lib.decDigits n:=by
  unfold Lib.itoa
  rw [if_neg (by omega)];simp
 rw [this,decDigits_strip _ _ n (Nat.le_refl _) hne hd hn]
theorem sz1 (c:UInt8):(⟨#[c]⟩:ByteArray).size=1:=rfl
theorem bsz1 (l:List UInt8):(⟨⟨l⟩⟩:ByteArray).size=l.length:=by simp [ByteArray.size]
abbrev LIM:Nat:=140737488355328
def PT (B:Nat) (w:World):Prop:=Lib.TabBelow Tryz.prog B w "internal/strconv.uint64pow10" .u64 Lib.pow10Tab
theorem PT.on {B:Nat} {w w':World} (h:PT B w) (hb:Below B w w'):PT B w':=Lib.TabBelow.on h hb
theorem IsB.below {B b:Nat} {bs:List Value} {w w':World} (h:IsB B b bs w) (hb:Below w.heap.size w w'):IsB B b bs w':=by
 have key:∀ p,BAt B b p bs w→BAt B b p bs w':=by
  rintro p ⟨hB,v,hbk,hown,hne⟩
  exact ⟨hB,v,below_heap hb (heap_lt hbk) hbk,own_block hown fun g _ hg=>hb.block g hg,hne⟩
 rcases h with h | h
 · exact .inl (key _ h)
 · exact .inr (key _ h)
theorem IsB.lt {B b:Nat} {bs:List Value} {w:World} (h:IsB B b bs w):b < w.heap.size:=by
 rcases h with h | h
 · exact Lib.BuilderAt.lt h
 · exact Lib.BuilderAt.lt h
theorem KT.of_below {b:Nat} {w w':World} (h:Below w.heap.size w w'):KT b w w':=fun k hk _ _=>h.block k hk
structure Adds (B b:Nat) (bs:List Value) (s:ByteArray) (w w':World):Prop where
 bd:IsB B b (bs ++ Lib.strCells s) w'
 bl:Below B w w'
 kt:KT b w w'
def Writes (x:Value) (s:ByteArray):Prop :=
 ∃ (T:TypeId) (v u:Value) (F:FuncId),x = .iface T v∧(∀ w,(method 500 T v "almanac/lang.write").run Tryz.prog w = .ok (F,u) w)∧(∀ args w,(callFunc F args).run Tryz.prog w = .ok (.enter F args) w)∧Tryz.prog.inits.idxOf? F=none ∧
  ∀ (B b:Nat) (bs:List Value) (w:World),IsB B b bs w→bs.length+s.size≤LIM→B≤w.heap.size→PT B w →
   Calls Tryz.prog F #[u, .pointer (some ⟨b,0,none⟩)] w fun e w'=>(∃ r,e = .returned r)∧Adds B b bs s w w'
theorem strCells_append (s t:ByteArray):Lib.strCells (s ++ t)=Lib.strCells s ++ Lib.strCells t:=by
 simp [Lib.strCells,Lib.byteCells]
theorem Adds.trans {B b:Nat} {bs:List Value} {s t:ByteArray} {w w1 w2:World} (h:Adds B b bs s w w1) (k:Adds B b (bs ++ Lib.strCells s) t w1 w2):Adds B b bs (s ++ t) w w2 :=
 ⟨by rw [strCells_append,←List.append_assoc];exact k.bd,h.bl.trans k.bl,h.kt.trans h.bl.size k.kt⟩
theorem Adds.byte {B b:Nat} {bs:List Value} {c:UInt8} {w w':World} (h:IsB B b (bs ++ [.int .u8 c.toNat]) w'∧Below B w w'∧KT b w w'):Adds B b bs ⟨#[c]⟩ w w':=⟨by simpa [Lib.strCells,Lib.byteCells] using h.1,h.2.1,h.2.2⟩
theorem Adds.from {B b:Nat} {bs:List Value} {s:ByteArray} {w0 w w':World} (h:Adds B b bs s w w') (hb:Below w0.heap.size w0 w) (hB:B≤w0.heap.size):Adds B b bs s w0 w' :=
 ⟨h.bd,(below_mono hB hb).trans h.bl,(KT.of_below hb).trans hb.size h.kt⟩
theorem methNumber (n:Int) (w:World):(method 500 244 (.int .i64 n) "almanac/lang.write").run Tryz.prog w = .ok (331,(.int .i64 n)) w:=by kernel_rfl
theorem entNumber (args:Array Value) (w:World):(callFunc 331 args).run Tryz.prog w = .ok (.enter 331 args) w:=by kernel_rfl
theorem methTruth (n:Bool) (w:World):(method 500 376 (.bool n) "almanac/lang.write").run Tryz.prog w = .ok (344,(.bool n)) w:=by kernel_rfl
theorem entTruth (args:Array Value) (w:World):(callFunc 344 args).run Tryz.prog w = .ok (.enter 344 args) w:=by kernel_rfl
theorem methName (n:ByteArray) (w:World):(method 500 377 (.string n) "almanac/lang.write").run Tryz.prog w = .ok (348,(.string n)) w:=by kernel_rfl
theorem entName (args:Array Value) (w:World):(callFunc 348 args).run Tryz.prog w = .ok (.enter 348 args) w:=by kernel_rfl
theorem methPair (n:Value) (w:World):(method 500 354 n "almanac/lang.write").run Tryz.prog w = .ok (337,n) w:=by kernel_rfl
theorem entPair (args:Array Value) (w:World):(callFunc 337 args).run Tryz.prog w = .ok (.enter 337 args) w:=by kernel_rfl
theorem methChoice (n:Value) (w:World):(method 500 379 n "almanac/lang.write").run Tryz.prog w = .ok (352,n) w:=by kernel_rfl
theorem entChoice (args:Array Value) (w:World):(callFunc 352 args).run Tryz.prog w = .ok (.enter 352 args) w:=by kernel_rfl
theorem writes_number {t:ByteArray} (ht:numB t=true):Writes (.iface 244 (.int .i64 (numVal t))) (stripT t):=by
 obtain ⟨h0,h1,he⟩:=itoa_strip ht
 refine ⟨_,_,_,_,rfl,methNumber _,entNumber,by kernel_rfl,fun B b bs w hb hl hB hp => ?_⟩
 have HB:=hid hb
 have HP:=hid hp
 have HE:=hid he
 have HL:=hid hl
 generalize numVal t=z at h0 h1 HE ⊢
 clear hb hp he hl ht
 go_enter Tryz.func331,Tryz.ntmps331
 go_wp2_with fail
 refine (Tryz.strconv_FormatInt_10 z (by omega) h1 _ (Lib.TabBelow.here HP.out)).mono ?_
 rintro e w1 ⟨rfl,k,os,rfl⟩
 rw [HE.out]
 have hg:=below_growN w k os
 have HG:=hid hg
 have HB1:=hid (HB.out.below hg)
 clear hg
 go_wp2_with fail
 refine (bWriteString B b bs (stripT t) _ HB1.out HL.out (Nat.le_trans hB HG.out.size)).mono ?_
 rintro e w2 ⟨rfl,h1,h2,h3⟩
 have HA:=hid ((Adds.mk h1 h2 h3).from HG.out hB)
 clear h1 h2 h3
 go_wp2
 go_end0
 exact ⟨⟨_,rfl⟩,HA.out⟩
theorem writes_truth (n:Bool):Writes (.iface 376 (.bool n)) ⟨(Lib.formatBool n).toArray⟩:=by
 refine ⟨_,_,_,_,rfl,methTruth _,entTruth,by kernel_rfl,fun B b bs w hb hl hB hp => ?_⟩
 have HB:=hid hb
 have HL:=hid hl
 clear hb hp hl
 go_enter Tryz.func344,Tryz.ntmps344
 go_wp2_with fail
 refine (Tryz.strconv_FormatBool n _).mono ?_
 rintro e w1 ⟨rfl,rfl⟩
 go_wp2_with fail
 refine (bWriteString B b bs _ _ HB.out HL.out hB).mono ?_
 rintro e w2 ⟨rfl,h1,h2,h3⟩
 have HA:=hid (Adds.mk h1 h2 h3)
 clear h1 h2 h3
 go_wp2
 go_end0
 exact ⟨⟨_,rfl⟩,HA.out⟩
theorem writes_name (t:ByteArray):Writes (.iface 377 (.string t)) t:=by
 refine ⟨_,_,_,_,rfl,methName _,entName,by kernel_rfl,fun B b bs w hb hl hB hp => ?_⟩
 have HB:=hid hb
 have HL:=hid hl
 clear hb hp hl
 go_enter Tryz.func348,Tryz.ntmps348
 go_wp2_with fail
 refine (bWriteString B b bs _ _ HB.out HL.out hB).mono ?_
 rintro e w2 ⟨rfl,h1,h2,h3⟩
 have HA:=hid (Adds.mk h1 h2 h3)
 clear h1 h2 h3
 go_wp2
 go_end0
 exact ⟨⟨_,rfl⟩,HA.out⟩
theorem writes_pair {op:List UInt8} {l r:Value} {s1 s2:ByteArray} (hl:Writes l s1) (hr:Writes r s2):Writes (mkPair ⟨⟨op⟩⟩ l r) (pairT op s1 s2):=by
 obtain ⟨T1,v1,u1,F1,rfl,m1,e1,_,c1⟩:=hl
 obtain ⟨T2,v2,u2,F2,rfl,m2,e2,_,c2⟩:=hr
 have HC1:=hid c1
 have HC2:=hid c2
 clear c1 c2
 refine ⟨_,_,_,_,rfl,methPair _,entPair,by kernel_rfl,fun B b bs w hb hl hB hp => ?_⟩
 have hbl:=below_new w (.cells #[.string ⟨⟨op⟩⟩, .iface T1 v1, .iface T2 v2] 354)
 have HB:=hid (hb.below hbl)
 have HBL:=hid hbl
 have HP:=hid (hp.on (below_mono hB hbl))
 have HN:=hid (new_heap w (.cells #[.string ⟨⟨op⟩⟩, .iface T1 v1, .iface T2 v2] 354))
 have hne:w.heap.size≠b:=Nat.ne_of_gt hb.lt
 have hB1:B≤(w.alloc (.cells #[.string ⟨⟨op⟩⟩, .iface T1 v1, .iface T2 v2] 354)).heap.size:=by simp;omega
 have HB1:=hid hB1
 have HLN:=hid hl
 clear hb hp hbl hB1 hl
 go_enter Tryz.func337,Tryz.ntmps337
 go_wp2_with fail
 refine (bWriteByte B b bs 40 _ HB.out (by have:=HLN.out;simp only [pairT,choiceT,List.length_append,Lib.strCells_length,ByteArray.size_append,bsz1,sz1,LIM,List.length_cons,List.length_nil] at *;omega) HB1.out).mono ?_
 rintro e w1 ⟨rfl,hadd⟩
 have hadd:=Adds.byte (c:=40) hadd
 have HA1:=hid hadd
 have hk:=HA1.out.kt.get HN.out hne (by decide)
 have k1_0:World.cell? _ ⟨w.heap.size,0,none⟩=some (.string ⟨⟨op⟩⟩):=heap_cell (i:=0) hk
 have k1_1:World.cell? _ ⟨w.heap.size,1,none⟩=some (.iface T1 v1):=heap_cell (i:=1) hk
 have k1_2:World.cell? _ ⟨w.heap.size,2,none⟩=some (.iface T2 v2):=heap_cell (i:=2) hk
 clear hk hadd
 go_wp2_with fail
 refine (HC1.out B b (bs ++ Lib.strCells (⟨#[40]⟩)) _ HA1.out.bd (by have:=HLN.out;simp only [pairT,choiceT,List.length_append,Lib.strCells_length,ByteArray.size_append,bsz1,sz1,LIM,List.length_cons,List.length_nil] at *;omega) (Nat.le_trans HB1.out HA1.out.bl.size) (HP.out.on HA1.out.bl)).mono ?_
 rintro e w2 ⟨⟨rv2,rfl⟩,hadd⟩
 have HA2:=hid (HA1.out.trans hadd)
 have hk:=HA2.out.kt.get HN.out hne (by decide)
 have k2_0:World.cell? _ ⟨w.heap.size,0,none⟩=some (.string ⟨⟨op⟩⟩):=heap_cell (i:=0) hk
 have k2_1:World.cell? _ ⟨w.heap.size,1,none⟩=some (.iface T1 v1):=heap_cell (i:=1) hk
 have k2_2:World.cell? _ ⟨w.heap.size,2,none⟩=some (.iface T2 v2):=heap_cell (i:=2) hk
 clear hk hadd
 go_wp2_with fail
 refine (bWriteString B b (bs ++ Lib.strCells (⟨#[40]⟩ ++ s1)) ⟨⟨op⟩⟩ _ HA2.out.bd (by have:=HLN.out;simp only [pairT,choiceT,List.length_append,Lib.strCells_length,ByteArray.size_append,bsz1,sz1,LIM,List.length_cons,List.length_nil] at *;omega) (Nat.le_trans HB1.out HA2.out.bl.size)).mono ?_
 rintro e w3 ⟨rfl,hadd1,hadd2,hadd3⟩
 have hadd:=Adds.mk hadd1 hadd2 hadd3
 clear hadd1 hadd2 hadd3
 have HA3:=hid (HA2.out.trans hadd)
 have hk:=HA3.out.kt.get HN.out hne (by decide)
 have k3_0:World.cell? _ ⟨w.heap.size,0,none⟩=some (.string ⟨⟨op⟩⟩):=heap_cell (i:=0) hk
 have k3_1:World.cell? _ ⟨w.heap.size,1,none⟩=some (.iface T1 v1):=heap_cell (i:=1) hk
 have k3_2:World.cell? _ ⟨w.heap.size,2,none⟩=some (.iface T2 v2):=heap_cell (i:=2) hk
 clear hk hadd
 go_wp2_with fail
 refine (HC2.out B b (bs ++ Lib.strCells (⟨#[40]⟩ ++ s1 ++ ⟨⟨op⟩⟩)) _ HA3.out.bd (by have:=HLN.out;simp only [pairT,choiceT,List.length_append,Lib.strCells_length,ByteArray.size_append,bsz1,sz1,LIM,List.length_cons,List.length_nil] at *;omega) (Nat.le_trans HB1.out HA3.out.bl.size) (HP.out.on HA3.out.bl)).mono ?_
 rintro e w4 ⟨⟨rv4,rfl⟩,hadd⟩
 have HA4:=hid (HA3.out.trans hadd)
 have hk:=HA4.out.kt.get HN.out hne (by decide)
 have k4_0:World.cell? _ ⟨w.heap.size,0,none⟩=some (.string ⟨⟨op⟩⟩):=heap_cell (i:=0) hk
 have k4_1:World.cell? _ ⟨w.heap.size,1,none⟩=some (.iface T1 v1):=heap_cell (i:=1) hk
 have k4_2:World.cell? _ ⟨w.heap.size,2,none⟩=some (.iface T2 v2):=heap_cell (i:=2) hk
 clear hk hadd
 go_wp2_with fail
 refine (bWriteByte B b (bs ++ Lib.strCells (⟨#[40]⟩ ++ s1 ++ ⟨⟨op⟩⟩ ++ s2)) 41 _ HA4.out.bd (by have:=HLN.out;simp only [pairT,choiceT,List.length_append,Lib.strCells_length,ByteArray.size_append,bsz1,sz1,LIM,List.length_cons,List.length_nil] at *;omega) (Nat.le_trans HB1.out HA4.out.bl.size)).mono ?_
 rintro e w5 ⟨rfl,hadd⟩
 have hadd:=Adds.byte (c:=41) hadd
 have HA5:=hid (HA4.out.trans hadd)
 have hk:=HA5.out.kt.get HN.out hne (by decide)
 have k5_0:World.cell? _ ⟨w.heap.size,0,none⟩=some (.string ⟨⟨op⟩⟩):=heap_cell (i:=0) hk
 have k5_1:World.cell? _ ⟨w.heap.size,1,none⟩=some (.iface T1 v1):=heap_cell (i:=1) hk
 have k5_2:World.cell? _ ⟨w.heap.size,2,none⟩=some (.iface T2 v2):=heap_cell (i:=2) hk
 clear hk hadd
 go_wp2
 go_end0
 exact ⟨⟨_,rfl⟩,HA5.out.from HBL.out hB⟩
theorem writes_choice {x y z:Value} {s1 s2 s3:ByteArray} (hx:Writes x s1) (hy:Writes y s2) (hz:Writes z s3):Writes (mkChoice x y z) (choiceT s1 s2 s3):=by
 obtain ⟨T1,v1,u1,F1,rfl,m1,e1,_,c1⟩:=hx
 obtain ⟨T2,v2,u2,F2,rfl,m2,e2,_,c2⟩:=hy
 obtain ⟨T3,v3,u3,F3,rfl,m3,e3,_,c3⟩:=hz
 have HC1:=hid c1
 have HC2:=hid c2
 have HC3:=hid c3
 clear c1 c2 c3
 refine ⟨_,_,_,_,rfl,methChoice _,entChoice,by kernel_rfl,fun B b bs w hb hl hB hp => ?_⟩
 have hbl:=below_new w (.cells #[.iface T1 v1, .iface T2 v2, .iface T3 v3] 379)
 have HB:=hid (hb.below hbl)
 have HBL:=hid hbl
 have HP:=hid (hp.on (below_mono hB hbl))
 have HN:=hid (new_heap w (.cells #[.iface T1 v1, .iface T2 v2, .iface T3 v3] 379))
 have hne:w.heap.size≠b:=Nat.ne_of_gt hb.lt
 have hB1:B≤(w.alloc (.cells #[.iface T1 v1, .iface T2 v2, .iface T3 v3] 379)).heap.size:=by simp;omega
 have HB1:=hid hB1
 have HLN:=hid hl
 clear hb hp hbl hB1 hl
 go_enter Tryz.func352,Tryz.ntmps352
 go_wp2_with fail
 refine (bWriteByte B b bs 40 _ HB.out (by have:=HLN.out;simp only [pairT,choiceT,List.length_append,Lib.strCells_length,ByteArray.size_append,bsz1,sz1,LIM,List.length_cons,List.length_nil] at *;omega) HB1.out).mono ?_
 rintro e w1 ⟨rfl,hadd⟩
 have hadd:=Adds.byte (c:=40) hadd
 have HA1:=hid hadd
 have hk:=HA1.out.kt.get HN.out hne (by decide)
 have k1_0:World.cell? _ ⟨w.heap.size,0,none⟩=some (.iface T1 v1):=heap_cell (i:=0) hk
 have k1_1:World.cell? _ ⟨w.heap.size,1,none⟩=some (.iface T2 v2):=heap_cell (i:=1) hk
 have k1_2:World.cell? _ ⟨w.heap.size,2,none⟩=some (.iface T3 v3):=heap_cell (i:=2) hk
 clear hk hadd
 go_wp2_with fail
 refine (HC1.out B b (bs ++ Lib.strCells (⟨#[40]⟩)) _ HA1.out.bd (by have:=HLN.out;simp only [pairT,choiceT,List.length_append,Lib.strCells_length,ByteArray.size_append,bsz1,sz1,LIM,List.length_cons,List.length_nil] at *;omega) (Nat.le_trans HB1.out HA1.out.bl.size) (HP.out.on HA1.out.bl)).mono ?_
 rintro e w2 ⟨⟨rv2,rfl⟩,hadd⟩
 have HA2:=hid (HA1.out.trans hadd)
 have hk:=HA2.out.kt.get HN.out hne (by decide)
 have k2_0:World.cell? _ ⟨w.heap.size,0,none⟩=some (.iface T1 v1):=heap_cell (i:=0) hk
 have k2_1:World.cell? _ ⟨w.heap.size,1,none⟩=some (.iface T2 v2):=heap_cell (i:=1) hk
 have k2_2:World.cell? _ ⟨w.heap.size,2,none⟩=some (.iface T3 v3):=heap_cell (i:=2) hk
 clear hk hadd
 go_wp2_with fail
 refine (bWriteByte B b (bs ++ Lib.strCells (⟨#[40]⟩ ++ s1)) 63 _ HA2.out.bd (by have:=HLN.out;simp only [pairT,choiceT,List.length_append,Lib.strCells_length,ByteArray.size_append,bsz1,sz1,LIM,List.length_cons,List.length_nil] at *;omega) (Nat.le_trans HB1.out HA2.out.bl.size)).mono ?_
 rintro e w3 ⟨rfl,hadd⟩
 have hadd:=Adds.byte (c:=63) hadd
 have HA3:=hid (HA2.out.trans hadd)
 have hk:=HA3.out.kt.get HN.out hne (by decide)
 have k3_0:World.cell? _ ⟨w.heap.size,0,none⟩=some (.iface T1 v1):=heap_cell (i:=0) hk
 have k3_1:World.cell? _ ⟨w.heap.size,1,none⟩=some (.iface T2 v2):=heap_cell (i:=1) hk
 have k3_2:World.cell? _ ⟨w.heap.size,2,none⟩=some (.iface T3 v3):=heap_cell (i:=2) hk
 clear hk hadd
 go_wp2_with fail
 refine (HC2.out B b (bs ++ Lib.strCells (⟨#[40]⟩ ++ s1 ++ ⟨#[63]⟩)) _ HA3.out.bd (by have:=HLN.out;simp only [pairT,choiceT,List.length_append,Lib.strCells_length,ByteArray.size_append,bsz1,sz1,LIM,List.length_cons,List.length_nil] at *;omega) (Nat.le_trans HB1.out HA3.out.bl.size) (HP.out.on HA3.out.bl)).mono ?_
 rintro e w4 ⟨⟨rv4,rfl⟩,hadd⟩
 have HA4:=hid (HA3.out.trans hadd)
 have hk:=HA4.out.kt.get HN.out hne (by decide)
 have k4_0:World.cell? _ ⟨w.heap.size,0,none⟩=some (.iface T1 v1):=heap_cell (i:=0) hk
 have k4_1:World.cell? _ ⟨w.heap.size,1,none⟩=some (.iface T2 v2):=heap_cell (i:=1) hk
 have k4_2:World.cell? _ ⟨w.heap.size,2,none⟩=some (.iface T3 v3):=heap_cell (i:=2) hk
 clear hk hadd
 go_wp2_with fail
 refine (bWriteByte B b (bs ++ Lib.strCells (⟨#[40]⟩ ++ s1 ++ ⟨#[63]⟩ ++ s2)) 58 _ HA4.out.bd (by have:=HLN.out;simp only [pairT,choiceT,List.length_append,Lib.strCells_length,ByteArray.size_append,bsz1,sz1,LIM,List.length_cons,List.length_nil] at *;omega) (Nat.le_trans HB1.out HA4.out.bl.size)).mono ?_
 rintro e w5 ⟨rfl,hadd⟩
 have hadd:=Adds.byte (c:=58) hadd
 have HA5:=hid (HA4.out.trans hadd)
 have hk:=HA5.out.kt.get HN.out hne (by decide)
 have k5_0:World.cell? _ ⟨w.heap.size,0,none⟩=some (.iface T1 v1):=heap_cell (i:=0) hk
 have k5_1:World.cell? _ ⟨w.heap.size,1,none⟩=some (.iface T2 v2):=heap_cell (i:=1) hk
 have k5_2:World.cell? _ ⟨w.heap.size,2,none⟩=some (.iface T3 v3):=heap_cell (i:=2) hk
 clear hk hadd
 go_wp2_with fail
 refine (HC3.out B b (bs ++ Lib.strCells (⟨#[40]⟩ ++ s1 ++ ⟨#[63]⟩ ++ s2 ++ ⟨#[58]⟩)) _ HA5.out.bd (by have:=HLN.out;simp only [pairT,choiceT,List.length_append,Lib.strCells_length,ByteArray.size_append,bsz1,sz1,LIM,List.length_cons,List.length_nil] at *;omega) (Nat.le_trans HB1.out HA5.out.bl.size) (HP.out.on HA5.out.bl)).mono ?_
 rintro e w6 ⟨⟨rv6,rfl⟩,hadd⟩
 have HA6:=hid (HA5.out.trans hadd)
 have hk:=HA6.out.kt.get HN.out hne (by decide)
 have k6_0:World.cell? _ ⟨w.heap.size,0,none⟩=some (.iface T1 v1):=heap_cell (i:=0) hk
 have k6_1:World.cell? _ ⟨w.heap.size,1,none⟩=some (.iface T2 v2):=heap_cell (i:=1) hk
 have k6_2:World.cell? _ ⟨w.heap.size,2,none⟩=some (.iface T3 v3):=heap_cell (i:=2) hk
 clear hk hadd
 go_wp2_with fail
 refine (bWriteByte B b (bs ++ Lib.strCells (⟨#[40]⟩ ++ s1 ++ ⟨#[63]⟩ ++ s2 ++ ⟨#[58]⟩ ++ s3)) 41 _ HA6.out.bd (by have:=HLN.out;simp only [pairT,choiceT,List.length_append,Lib.strCells_length,ByteArray.size_append,bsz1,sz1,LIM,List.length_cons,List.length_nil] at *;omega) (Nat.le_trans HB1.out HA6.out.bl.size)).mono ?_
 rintro e w7 ⟨rfl,hadd⟩
 have hadd:=Adds.byte (c:=41) hadd
 have HA7:=hid (HA6.out.trans hadd)
 have hk:=HA7.out.kt.get HN.out hne (by decide)
 have k7_0:World.cell? _ ⟨w.heap.size,0,none⟩=some (.iface T1 v1):=heap_cell (i:=0) hk
 have k7_1:World.cell? _ ⟨w.heap.size,1,none⟩=some (.iface T2 v2):=heap_cell (i:=1) hk
 have k7_2:World.cell? _ ⟨w.heap.size,2,none⟩=some (.iface T3 v3):=heap_cell (i:=2) hk
 clear hk hadd
 go_wp2
 go_end0
 exact ⟨⟨_,rfl⟩,HA7.out.from HBL.out hB⟩
end Go.Proofs.YtoagooclaphdbaaGreatDoor
namespace Go.Proofs.YtoagooclaphdbaaGreatDoor
open Go.RowKit
theorem isName_all (t:ByteArray) (w:World) :
 Calls Tryz.prog 68 #[.string t] w fun e w'=>e = .returned (.bool (nameB t))∧w'=w:=by
 by_cases h2:t.size≤8
 · exact isName_any t w (by unfold maxLen;omega)
 · have h1:1≤t.size:=by omega
   go_enter Tryz.func68,Tryz.ntmps68
   go_wp2
   go_ret
   exact ⟨ret_bool (by simp [nameB,h2]),rfl⟩
theorem isFile_any (t:ByteArray) (w:World) :
 Calls Tryz.prog 44 #[.string t] w fun e w'=>e = .returned (.bool (fileB t))∧w'=w:=by
 have HN:=hid (isName_all t w)
 obtain ⟨n,hn⟩:∃ n,n=nameB t:=⟨_,rfl⟩
 obtain ⟨a,ha⟩:∃ a,a=eqB t none_:=⟨_,rfl⟩
 obtain ⟨b,hb⟩:∃ b,b=eqB t two_:=⟨_,rfl⟩
 have h1:(t.toList == [110,111,110,101])=a:=(eqB_lit t [110,111,110,101]).symm.trans ha.symm
 have h2:(t.toList == [116,119,111])=b:=(eqB_lit t [116,119,111]).symm.trans hb.symm
 have hf:fileB t=(n && !a && !b):=by unfold fileB;rw [←hn,←ha,←hb]
 rw [hf]
 rw [←hn] at HN
 clear hn ha hb hf
 cases n
 all_goals cases a
 all_goals cases b
 all_goals
  go_enter Tryz.func44,Tryz.ntmps44
  go_wp2_with (first | (go_at_call 68;refine HN.out.mono ?_;rintro e w' ⟨rfl,rfl⟩))
  go_ret
  exact ⟨rfl,rfl⟩
theorem gravity_any (t:ByteArray) (w:World) :
 Calls Tryz.prog 176 #[.string t] w fun e w'=>e = .returned (.int .i64 (grav t))∧w'=w:=by
 obtain ⟨a,ha⟩:∃ a,a=eqB t cyc_:=⟨_,rfl⟩
 obtain ⟨b,hb⟩:∃ b,b=eqB t bad_:=⟨_,rfl⟩
 obtain ⟨c,hc⟩:∃ c,c=eqB t over_:=⟨_,rfl⟩
 have h1:(t.toList == [99,121,99,108,101])=a:=(eqB_lit t [99,121,99,108,101]).symm.trans ha.symm
 have h2:(t.toList == [98,97,100])=b:=(eqB_lit t [98,97,100]).symm.trans hb.symm
 have h3:(t.toList == [111,118,101,114])=c:=(eqB_lit t [111,118,101,114]).symm.trans hc.symm
 have hg:grav t=if a then 3 else if b then 2 else if c then 1 else 0:=by unfold grav;rw [←ha,←hb,←hc]
 rw [hg]
 clear ha hb hc hg
 cases a
 all_goals cases b
 all_goals cases c
 all_goals
  go_enter Tryz.func176,Tryz.ntmps176
  go_wp2
  go_ret
  exact ⟨rfl,rfl⟩
theorem worse_any (f v:ByteArray) (w:World) :
 Calls Tryz.prog 148 #[.string f, .string v] w fun e w'=>e = .returned (.string (worse f v))∧w'=w:=by
 by_cases h:grav f < grav v
 · have hw:worse f v=v:=by unfold worse;rw [if_pos h]
   rw [hw]
   have HG1:=hid (gravity_any v w)
   have HG2:=hid (gravity_any f w)
   obtain ⟨x,hx⟩:∃ x:Int,x=grav f:=⟨_,rfl⟩
   obtain ⟨y,hy⟩:∃ y:Int,y=grav v:=⟨_,rfl⟩
   have hlt:x < y:=by omega
   rw [←hx] at HG2
   rw [←hy] at HG1
   clear h hw hx hy
   go_enter Tryz.func148,Tryz.ntmps148
   go_wp2_with fail
   refine HG1.out.mono ?_
   rintro e w1 ⟨rfl,rfl⟩
   go_wp2_with fail
   refine HG2.out.mono ?_
   rintro e w2 ⟨rfl,rfl⟩
   go_wp2
   go_ret
   exact ⟨rfl,rfl⟩
 · have hw:worse f v=f:=by unfold worse;rw [if_neg h]
   rw [hw]
   have HG1:=hid (gravity_any v w)
   have HG2:=hid (gravity_any f w)
   obtain ⟨x,hx⟩:∃ x:Int,x=grav f:=⟨_,rfl⟩
   obtain ⟨y,hy⟩:∃ y:Int,y=grav v:=⟨_,rfl⟩
   have hlt:¬ (x < y):=by omega
   rw [←hx] at HG2
   rw [←hy] at HG1
   clear h hw hx hy
   go_enter Tryz.func148,Tryz.ntmps148
   go_wp2_with fail
   refine HG1.out.mono ?_
   rintro e w1 ⟨rfl,rfl⟩
   go_wp2_with fail
   refine HG2.out.mono ?_
   rintro e w2 ⟨rfl,rfl⟩
   go_wp2
   go_ret
   exact ⟨rfl,rfl⟩
theorem parseM_dec:∀ (l:List UInt8) (acc:Nat),(∀ x∈l,isDigB x.toNat=true)→(acc+1) * 10 ^ l.length≤10 ^ 10→∃ n,Lib.decFrom acc l=some n∧Lib.parseUintM 18446744073709551615 acc l = .ok n∧n < 10 ^ 10
 | [],acc,_,h=>⟨acc,rfl,rfl,by simp at h;omega⟩
 | c :: l,acc,hd,h=>by
  have hc:=hd c (by simp)
  unfold isDigB at hc
  simp only [Bool.and_eq_true,decide_eq_true_eq] at hc
  have hc:48≤c.toNat∧c.toNat≤57:=by omega
  have h10:1≤10 ^ l.length:=Nat.pow_pos (by decide)
  rw [List.length_cons,Nat.pow_succ,Nat.mul_comm (10 ^ l.length) 10,←Nat.mul_assoc] at h
  have hstep:(acc * 10+(c.toNat - 48)+1) * 10 ^ l.length≤10 ^ 10:=Nat.le_trans (Nat.mul_le_mul_right _ (by omega)) h
  have hacc:(acc+1) * 10≤10 ^ 10:=Nat.le_trans (Nat.le_mul_of_pos_right _ h10) h
  obtain ⟨n,h1,h2,h3⟩:=parseM_dec l (acc * 10+(c.toNat - 48)) (fun x hx=>hd x (List.mem_cons_of_mem _ hx)) hstep
  refine ⟨n,?_,?_,h3⟩
  · have hdv:Lib.digitVal c=some (c.toNat - 48):=if_pos hc
    simp only [Lib.decFrom,hdv];exact h1
  · rw [Lib.parseUintM,if_pos hc,if_neg (by omega),if_neg (by omega)]
    exact h2
theorem parse_num {t:ByteArray} (h:numB t=true):Lib.parseIntB 64 t.data.toList = .ok (numVal t):=by
 obtain ⟨h1,h2,h3⟩:=numB_digs h
 unfold numVal
 have hl:t.data.toList.length=t.size:=by simp
 generalize t.data.toList=l at *
 cases l with
 | nil=>simp at hl;omega
 | cons c r =>
  have hc:=h3 c (by simp)
  unfold isDigB at hc
  simp only [Bool.and_eq_true,decide_eq_true_eq] at hc
  have n1:(c == 45)=false:=by rw [beq_eq_false_iff_ne];rintro rfl;exact absurd hc.1 (by decide)
  have n2:(c == 43)=false:=by rw [beq_eq_false_iff_ne];rintro rfl;exact absurd hc.1 (by decide)
  obtain ⟨n,d1,d2,d3⟩:=parseM_dec (c :: r) 0 h3 (by
   have:10 ^ (c :: r).length≤10 ^ 9:=Nat.pow_le_pow_right (by omega) (by omega)
   omega)
  have m1:¬ (c.toNat=43∨c.toNat=45):=by omega
  have m2:¬ (c.toNat=45):=by omega
  simp only [Lib.atoi,n1,n2,Bool.false_eq_true,if_false,Lib.decNat,List.isEmpty_cons,d1]
  simp only [Lib.parseIntB,Lib.parseUintB,if_neg m1]
  rw [if_neg (by simp),show (2 ^ 64 - 1:Nat)=18446744073709551615 from rfl,d2]
  have:¬ (9223372036854775808≤n):=by omega
  simp [m2,this]
theorem fault_syn:Lib.parseIntB 64 cyc_.data.toList = .«syntax» ∧ Lib.parseIntB 64 bad_.data.toList = .«syntax» ∧ Lib.parseIntB 64 over_.data.toList = .«syntax» ∧ Lib.parseIntB 64 none_.data.toList = .«syntax»:=by
 refine ⟨?_,?_,?_,?_⟩ <;> rfl
def EOk (w:World):Prop:=∃ ev,w.cell? ⟨4,0,none⟩=some ev∧(ev = .nilIface∨∃ te pe,ev = .iface te pe)
theorem worth_true (w:World):Calls Tryz.prog 177 #[.bool true] w fun e w'=>e = .returned (.int .i64 1)∧w'=w:=worthOf_any true w
theorem worth_false (w:World):Calls Tryz.prog 177 #[.bool false] w fun e w'=>e = .returned (.int .i64 0)∧w'=w:=worthOf_any false w
theorem readWorth_any {v:ByteArray} (hv:valOk v=true) (w:World) (hg:EOk w) :
 Calls Tryz.prog 149 #[.string v] w fun e w'=>e = .returned (.int .i64 (readW v))∧Below w.heap.size w w':=by
 have hcase:v=true_∨v=false_∨((v.toList == [116,114,117,101])=false∧(v.toList == [102,97,108,115,101])=false∧v.size≤9∧((Lib.parseIntB 64 v.data.toList = .ok (readW v))∨(Lib.parseIntB 64 v.data.toList = .«syntax» ∧ readW v=0))):=by
  unfold valOk at hv
  simp only [Bool.or_eq_true] at hv
  have hno:∀ x:ByteArray,v=x→eqB x true_=false→eqB x false_=false→(v.toList == [116,114,117,101])=false∧(v.toList == [102,97,108,115,101])=false:=by
   rintro x rfl h1 h2
   exact ⟨(eqB_lit v [116,114,117,101]).symm.trans h1,(eqB_lit v [102,97,108,115,101]).symm.trans h2⟩
  rcases hv with ((((((h | h) | h) | h) | h) | h) | h)
  · have ht:eqB v true_=false:=eqB_no (by rintro rfl;exact absurd h (by decide))
    have hf:eqB v false_=false:=eqB_no (by rintro rfl;exact absurd h (by decide))
    obtain ⟨a,b⟩:=hno v rfl ht hf
    refine .inr (.inr ⟨a,b,(numB_digs h).2.1, .inl ?_⟩)
    rw [parse_num h]
    simp [readW,ht,h]
  · exact .inl (eqB_is.1 h)
  · exact .inr (.inl (eqB_is.1 h))
  · have:=eqB_is.1 h;subst this
    obtain ⟨a,b⟩:=hno _ rfl (eqB_no (by decide)) (eqB_no (by decide))
    exact .inr (.inr ⟨a,b,by decide, .inr ⟨fault_syn.1,by rw [readW,eqB_no (by decide)];rfl⟩⟩)
  · have:=eqB_is.1 h;subst this
    obtain ⟨a,b⟩:=hno _ rfl (eqB_no (by decide)) (eqB_no (by decide))
    exact .inr (.inr ⟨a,b,by decide, .inr ⟨fault_syn.2.1,by rw [readW,eqB_no (by decide)];rfl⟩⟩)
  · have:=eqB_is.1 h;subst this
    obtain ⟨a,b⟩:=hno _ rfl (eqB_no (by decide)) (eqB_no (by decide))
    exact .inr (.inr ⟨a,b,by decide, .inr ⟨fault_syn.2.2.1,by rw [readW,eqB_no (by decide)];rfl⟩⟩)
  · have:=eqB_is.1 h;subst this
    obtain ⟨a,b⟩:=hno _ rfl (eqB_no (by decide)) (eqB_no (by decide))
    exact .inr (.inr ⟨a,b,by decide, .inr ⟨fault_syn.2.2.2,by rw [readW,eqB_no (by decide)];rfl⟩⟩)
 rcases hcase with rfl | rfl | ⟨h1,h2,h3,h4⟩
 · have hr:readW true_=1:=by rw [readW,eqB_is.2 rfl];rfl
   rw [hr]
   clear hv hg hr
   go_enter Tryz.func149,Tryz.ntmps149
   go_wp2_with fail
   refine (worth_true w).mono ?_
   rintro e w1 ⟨rfl,rfl⟩
   go_wp2
   go_ret
   exact ⟨rfl,Below.refl _ _⟩
 · have hr:readW false_=0:=by rw [readW,eqB_no (by decide)];rfl
   rw [hr]
   clear hv hg hr
   go_enter Tryz.func149,Tryz.ntmps149
   go_wp2_with fail
   refine (worth_false w).mono ?_
   rintro e w1 ⟨rfl,rfl⟩
   go_wp2
   go_ret
   exact ⟨rfl,Below.refl _ _⟩
 · have HP:Hid (Calls Tryz.prog 178 #[.string v, .int .i64 10, .int .i64 64] w fun e w'=>(∃ er,e = .returned (.tuple #[.int .i64 (readW v),er]))∧Below w.heap.size w w'):=hid (by
    rcases h4 with h4 | ⟨h4,h5⟩
    · refine (Tryz.strconv_ParseInt_10_at64_ok v (by omega) _ h4 w).mono ?_
      rintro e w' ⟨rfl,hw⟩
      refine ⟨⟨_,rfl⟩,?_⟩
      rcases hw with rfl | ⟨t,rfl⟩
      · exact Below.refl _ _
      · exact Lib.bytesWorld_below _ _ _
    · obtain ⟨ev,he1,he2⟩:=hg
      refine (Tryz.strconv_ParseInt_10_at64_syntax v (by omega) h4 ev w he1 he2).mono ?_
      rintro e w' ⟨N,rfl,_,_,hb⟩
      exact ⟨⟨_,by rw [h5]⟩,hb⟩)
   have hbd:=readW_ok v
   generalize readW v=z at HP hbd ⊢
   clear hv hg h3 h4
   obtain ⟨hb0,hb1⟩:=hbd
   go_enter Tryz.func149,Tryz.ntmps149
   go_wp2_with fail
   refine HP.out.mono ?_
   rintro e w1 ⟨⟨er,rfl⟩,hb⟩
   have HB:=hid hb
   clear hb
   go_wp2
   go_ret
   exact ⟨rfl,HB.out⟩
theorem writeWorth_any (kd:ByteArray) (n:Int) (h0:0≤n) (h1:n≤999999999) (w:World) (hp:PT w.heap.size w) :
 Calls Tryz.prog 151 #[.string kd, .int .i64 n] w fun e w'=>e = .returned (.string (writeW kd n))∧Below w.heap.size w w':=by
 obtain ⟨a,ha⟩:∃ a,a=eqB kd bool_:=⟨_,rfl⟩
 have hk:(kd.toList == [98,111,111,108])=a:=(eqB_lit kd [98,111,111,108]).symm.trans ha.symm
 have hw:writeW kd n=if a then (if n == 1 then true_ else false_) else ⟨(Lib.itoa n).toArray⟩:=by unfold writeW;rw [←ha]
 rw [hw]
 clear ha hw
 cases a
 · have HP:=hid hp
   obtain ⟨s,hs⟩:∃ s:ByteArray,s=⟨(Lib.itoa n).toArray⟩:=⟨_,rfl⟩
   simp only [Bool.false_eq_true,if_false]
   rw [←hs]
   have HF:=hid (Tryz.strconv_FormatInt_10 n (by omega) (by omega) w (Lib.TabBelow.here hp))
   rw [←hs] at HF
   clear hp hs
   go_enter Tryz.func151,Tryz.ntmps151
   go_wp2_with fail
   refine HF.out.mono ?_
   rintro e w1 ⟨rfl,k,os,rfl⟩
   have HB:=hid (below_growN w k os)
   go_wp2
   go_ret
   exact ⟨rfl,HB.out⟩
 · simp only [if_true]
   clear hp
   cases h:(n == 1) with
   | false =>
    have HF:=hid (Tryz.strconv_FormatBool false w)
    simp only [Bool.false_eq_true,if_false]
    go_enter Tryz.func151,Tryz.ntmps151
    go_wp2_with fail
    refine (worth_true w).mono ?_
    rintro e w1 ⟨rfl,rfl⟩
    go_wp2_with fail
    refine HF.out.mono ?_
    rintro e w2 ⟨rfl,rfl⟩
    go_wp2
    go_ret
    exact ⟨rfl,Below.refl _ _⟩
   | true =>
    have HF:=hid (Tryz.strconv_FormatBool true w)
    simp only [if_true]
    go_enter Tryz.func151,Tryz.ntmps151
    go_wp2_with fail
    refine (worth_true w).mono ?_
    rintro e w1 ⟨rfl,rfl⟩
    go_wp2_with fail
    refine HF.out.mono ?_
    rintro e w2 ⟨rfl,rfl⟩
    go_wp2
    go_ret
    exact ⟨rfl,Below.refl _ _⟩
end Go.Proofs.YtoagooclaphdbaaGreatDoor

/-
  Small facts on worlds, blocks and texts; the small functions of names. The language in plain terms: exprs, items; what each question's work is. The library's text builder at this program: copyCheck, WriteByte, WriteString. The document's text of an expr. The document's text of an expr: sums, products, choices. Numbers as texts: what the program writes, and a text of digits without noughts ahead. T
-/
import Derived.Test.YthibodlojlkppaaGreatDoorB01
import Derived.Test.YthibodlojlkppaaGreatDoorB03
import Derived.Test.YthibodlojlkppaaGreatDoorB06
import Derived.Test.YthibodlojlkppaaGreatDoorB07
import Derived.Test.YthibodlojlkppaaGreatDoorB08
import Derived.Test.YthibodlojlkppaaGreatDoorB23
import Derived.Test.YthibodlojlkppaaGreatDoorB24
import Derived.Test.YthibodlojlkppaaGreatDoorB25
import Derived.Test.YthibodlojlkppaaGreatDoorB35
import Derived.Test.YthibodlojlkppaaGreatDoorRows
import Derived.Test.YthibodlojlkppaaGreatDoorShelf
import Derived.WalkKit
import Derived.WalkSpells
import Derived.WalkLawsBesides
import Derived.Handy
import Derived.Deep.RegionWith
import Derived.Lib.SlicesCompact
import Derived.Lib.Builder
import Derived.Lib.AppendStr
import Derived.Lib.BufferWrite
import Derived.Deep.RegionHeld3
import Derived.Laws.IdiomStrings
import Derived.Lib.AppendIntMem
set_option linter.unusedVariables false
set_option linter.unusedSectionVars false
set_option linter.unusedSimpArgs false
set_option maxRecDepth 100000
set_option maxHeartbeats 40000000

namespace Go.Proofs.YthibodlojlkppaaGreatDoor
open Go.RowKit
theorem ret_str {a b:ByteArray} (h:a=b):Ending.returned (.string a) = .returned (.string b):=by rw [h]
end Go.Proofs.YthibodlojlkppaaGreatDoor
namespace Go.Proofs.YthibodlojlkppaaGreatDoor
open Go.RowKit
variable [DecidableEq K] [LawfulBEq Lk]
def Ex.fold {α:Type} (f1:Int→α) (f2:Bool→α) (f3:ByteArray→α) (f4:List UInt8→α→α→α) (f5:α→α→α→α):Ex→α
 | ⟨.inl n,_⟩=>f1 n
 | ⟨.inr (.inl b),_⟩=>f2 b
 | ⟨.inr (.inr (.inl t)),_⟩=>f3 t
 | ⟨.inr (.inr (.inr (.inl op))),s⟩=>f4 op (Ex.fold f1 f2 f3 f4 f5 (s false)) (Ex.fold f1 f2 f3 f4 f5 (s true))
 | ⟨.inr (.inr (.inr (.inr _))),s⟩=>f5 (Ex.fold f1 f2 f3 f4 f5 (s none)) (Ex.fold f1 f2 f3 f4 f5 (s (some false))) (Ex.fold f1 f2 f3 f4 f5 (s (some true)))
end Go.Proofs.YthibodlojlkppaaGreatDoor
namespace Go.Proofs.YthibodlojlkppaaGreatDoor
open Go.RowKit
theorem bCheck (B b:Nat) (bs:List Value) (w:World) (h:IsB B b bs w) :
 Calls Tryz.prog 91 #[.pointer (some ⟨b,0,none⟩)] w fun e w'=>e = .returned (.tuple #[])∧BAt B b (.pointer (some ⟨b,0,none⟩)) bs w'∧Below B w w'∧KT b w w':=by
 rcases h with h | h
 · refine (bCheck_fresh b w h.cell0 h.shape h.frozen0).mono ?_
   rintro e w' ⟨rfl,rfl⟩
   exact ⟨rfl,h.used _,(Below.refl B w).setCell (p:=⟨b,0,none⟩) h.1 _,KT.setCell _ _ _ _⟩
 · refine (bCheck_used b w h.cell0).mono ?_
   rintro e w' ⟨rfl,rfl⟩
   exact ⟨rfl,h,Below.refl B _,KT.refl _ _⟩
theorem bWriteByte (B b:Nat) (bs:List Value) (c:Int) (w:World) (h:IsB B b bs w) (hlen:bs.length+1≤140737488355328) (hBw:B≤w.heap.size) :
 Calls Tryz.prog 60 #[.pointer (some ⟨b,0,none⟩), .int .u8 c] w fun e w'=>e = .returned .nilIface∧IsB B b (bs ++ [.int .u8 c]) w'∧Below B w w'∧KT b w w':=by
 obtain ⟨i0,hi,hz0,hz1,hz2⟩:=info_parts infoU8
 go_enter Tryz.func60,Tryz.ntmps60
 go_wp2_with (go_at_call 91;refine (bCheck B b bs _ h).mono ?_)
 rintro e w1 ⟨rfl,h1,hb1,hk1⟩
 obtain ⟨hB,v,hbk,hown,hne⟩:=h1
 have hlt:=heap_lt hbk
 have c1:w1.cell? ⟨b,1,none⟩=some v:=heap_cell hbk
 go_wp2_with (at_builtin;refine wpList_append_own _ rfl _ _ 117 rfl B 5 i0 (.int .u8 0) 1 1 Tryz.underlying117 hi hz0 hz1 hz2 rfl (by decide) _ _ _ rfl (hown.alloc _) ⟨w1.heap.size,0,none⟩ 1 1 [.int .u8 c] rfl rfl ?c1 ?c2 ?c3 ?c4 ?c5 ?_)
 case c1=>exact cell_one_new _ _ _
 case c2=>intro u hu;simp at hu;subst hu;rfl
 case c3=>unfold maxLen;omega
 case c4=>omega
 case c5=>have:=hb1.size;simp;omega
 intro v' w2 hown' hgrow _
 have hb2:w2.heap[b]? = some (.cells #[.pointer (some ⟨b,0,none⟩),v] 119 (0,0)):=by
  rw [hgrow.block b (by simp;omega) (fun e=>hne e.symm)]
  exact old_heap _ hbk
 have d1:w2.cell? ⟨b,1,none⟩=some v:=heap_cell hb2
 have f1:w2.frozen? ⟨b,1,none⟩=false:=heap_frozen hb2
 obtain ⟨g,cap,rfl⟩:∃ g cap,v' = .slice (some ⟨g,0,none⟩) (bs.length+1) cap:=by
  rcases hown'.2 with ⟨_,h0⟩ | ⟨g,cap,cur,hv,_⟩
  · omega
  · exact ⟨g,cap,hv⟩
 go_wp2
 go_ret
 refine ⟨rfl, .inr ?_,?_,?_⟩
 · exact Lib.BuilderAt.put (T:=119) (e:=5) hB hb2 (bs':=bs ++ [.int .u8 c]) (by simpa using hown') (by decide)
 · exact ((hb1.alloc (by have:=hb1.size;omega) _).grown hgrow (by have:=hb1.size;simp;omega) (fun k hk=>(hown.lt k hk).1)).setCell (p:=⟨b,1,none⟩) hB _
 · exact ((hk1.trans hb1.size (KT.alloc b w1 _)).trans (by have:=hb1.size;simp;omega) (KT.grown (hown.alloc _) hgrow)).trans (by have:=hb1.size;have:=hgrow.size;simp at *;omega) (KT.setCell _ _ _ _)
theorem bWriteString (B b:Nat) (bs:List Value) (s:ByteArray) (w:World) (h:IsB B b bs w) (hlen:bs.length+s.size≤140737488355328) (hBw:B≤w.heap.size) :
 Calls Tryz.prog 61 #[.pointer (some ⟨b,0,none⟩), .string s] w fun e w'=>e = .returned (.tuple #[.int .i64 s.size, .nilIface])∧IsB B b (bs ++ Lib.strCells s) w'∧Below B w w'∧KT b w w':=by
 obtain ⟨i0,hi,hz0,hz1,hz2⟩:=info_parts infoU8
 go_enter Tryz.func61,Tryz.ntmps61
 go_wp2_with (go_at_call 91;refine (bCheck B b bs _ h).mono ?_)
 rintro e w1 ⟨rfl,h1,hb1,hk1⟩
 obtain ⟨hB,v,hbk,hown,hne⟩:=h1
 have hlt:=heap_lt hbk
 have c1:w1.cell? ⟨b,1,none⟩=some v:=heap_cell hbk
 go_wp2_with (at_builtin;refine Lib.wpList_append_own_string _ rfl _ _ 117 9 rfl B 5 i0 Tryz.underlying117 Tryz.underlying9 hi hz0 hz1 hz2 _ _ _ rfl hown s rfl ?c3 ?c4 ?c5 ?_)
 case c3=>unfold maxLen;omega
 case c4=>omega
 case c5=>have:=hb1.size;omega
 intro v' w2 hown' hgrow _
 have hb2:w2.heap[b]? = some (.cells #[.pointer (some ⟨b,0,none⟩),v] 119 (0,0)):=by
  rw [hgrow.block b (by omega) (fun e=>hne e.symm)]
  exact hbk
 have d1:w2.cell? ⟨b,1,none⟩=some v:=heap_cell hb2
 have f1:w2.frozen? ⟨b,1,none⟩=false:=heap_frozen hb2
 obtain ⟨ao,cap,rfl⟩:∃ ao cap,v' = .slice ao (bs.length+s.size) cap:=by
  rcases hown'.2 with ⟨hv,h0⟩ | ⟨g,cap,cur,hv,_⟩
  · exact ⟨none,0,by rw [hv,h0]⟩
  · exact ⟨_,_,hv⟩
 go_wp2
 go_ret2
 refine ⟨rfl, .inr ?_,?_,?_⟩
 · exact Lib.BuilderAt.put (T:=119) (e:=5) hB hb2 (bs':=bs ++ Lib.strCells s) (by simpa [Lib.strCells_length] using hown') (by decide)
 · exact (hb1.grown hgrow (by have:=hb1.size;omega) (fun k hk=>(hown.lt k hk).1)).setCell (p:=⟨b,1,none⟩) hB _
 · exact (hk1.trans hb1.size (KT.grown hown hgrow)).trans (by have:=hb1.size;have:=hgrow.size;omega) (KT.setCell _ _ _ _)
def pairT (op:List UInt8) (x y:ByteArray):ByteArray:=((⟨#[40]⟩ ++ x) ++ ⟨⟨op⟩⟩ ++ y) ++ ⟨#[41]⟩
def choiceT (x y z:ByteArray):ByteArray:=((((⟨#[40]⟩ ++ x) ++ ⟨#[63]⟩ ++ y) ++ ⟨#[58]⟩) ++ z) ++ ⟨#[41]⟩
end Go.Proofs.YthibodlojlkppaaGreatDoor
namespace Go.Proofs.YthibodlojlkppaaGreatDoor
open Go.RowKit Go.Sort
def dgs (l:List UInt8):Prop:=∀ x∈l,isDigB x.toNat=true
theorem digitVal_of {c:UInt8} (h:isDigB c.toNat=true):Lib.digitVal c=some (c.toNat - 48):=by
 simp only [isDigB,Bool.and_eq_true,decide_eq_true_eq] at h
 unfold Lib.digitVal
 rw [if_pos (by omega)]
theorem decFrom_snoc:∀ (l:List UInt8) (acc n:Nat) (c:UInt8),Lib.decFrom acc l=some n→isDigB c.toNat=true→Lib.decFrom acc (l ++ [c])=some (n * 10+(c.toNat - 48))
 | [],acc,n,c,h,hc=>by
  simp only [Lib.decFrom,Option.some.injEq] at h
  subst h
  simp [Lib.decFrom,digitVal_of hc]
 | b :: r,acc,n,c,h,hc=>by
  simp only [Lib.decFrom,List.cons_append] at h ⊢
  cases hb:Lib.digitVal b with
  | none=>rw [hb] at h;cases h
  | some d=>rw [hb] at h;exact decFrom_snoc r _ n c h hc
theorem decFrom_some:∀ (l:List UInt8) (acc:Nat),dgs l→∃ n,Lib.decFrom acc l=some n
 | [],acc,_=>⟨acc,rfl⟩
 | b :: r,acc,h=>by
  obtain ⟨n,hn⟩:=decFrom_some r (acc * 10+(b.toNat - 48)) (fun x hx=>h x (by simp [hx]))
  exact ⟨n,by simp [Lib.decFrom,digitVal_of (h b (by simp)),hn]⟩
theorem decFrom_ge:∀ (l:List UInt8) (acc n:Nat),Lib.decFrom acc l=some n→acc≤n
 | [],acc,n,h=>by simp only [Lib.decFrom,Option.some.injEq] at h;omega
 | b :: r,acc,n,h=>by
  simp only [Lib.decFrom] at h
  cases hb:Lib.digitVal b with
  | none=>rw [hb] at h;cases h
  | some d=>rw [hb] at h;have:=decFrom_ge r _ n h;omega
theorem strip_snoc:∀ (l:List UInt8) (n:Nat) (c:UInt8),l ≠ []→dgs l→Lib.decFrom 0 l=some n→strip (l ++ [c])=if n=0 then [c] else strip l ++ [c]
 | [],_,_,h,_,_=>absurd rfl h
 | [x],n,c,_,hd,hn=>by
  have hx:=hd x (by simp)
  simp only [Lib.decFrom,digitVal_of hx,Option.some.injEq] at hn
  simp only [isDigB,Bool.and_eq_true,decide_eq_true_eq] at hx
  by_cases h48:x.toNat=48
  · rw [if_pos (by omega)];simp [strip,h48]
  · rw [if_neg (by omega)];simp [strip,h48]
 | x :: y :: r,n,c,_,hd,hn=>by
  have hx:=hd x (by simp)
  have hr:dgs (y :: r):=fun z hz=>hd z (by simp [hz])
  by_cases h48:x.toNat=48
  · have hn2:Lib.decFrom 0 (y :: r)=some n:=by
     have e:Lib.decFrom 0 (x :: y :: r)=Lib.decFrom (0 * 10+(x.toNat - 48)) (y :: r):=by
      conv=>lhs;unfold Lib.decFrom
      rw [digitVal_of hx]
     rw [e,h48] at hn
     exact hn
    have:=strip_snoc (y :: r) n c (by simp) hr hn2
    have e1:strip (x :: y :: r ++ [c])=strip (y :: r ++ [c]):=by simp [strip,h48]
    have e2:strip (x :: y :: r)=strip (y :: r):=by simp [strip,h48]
    rw [e1,this,e2]
  · have hpos:n≠0:=by
     have e:Lib.decFrom 0 (x :: y :: r)=Lib.decFrom (0 * 10+(x.toNat - 48)) (y :: r):=by
      conv=>lhs;unfold Lib.decFrom
      rw [digitVal_of hx]
     rw [e] at hn
     have:=decFrom_ge _ _ _ hn
     simp only [isDigB,Bool.and_eq_true,decide_eq_true_eq] at hx
     omega
    rw [if_neg hpos]
    simp [strip,h48]
theorem u8_back {c:UInt8} (h:isDigB c.toNat=true):UInt8.ofNat (48+(c.toNat - 48))=c:=by
 simp only [isDigB,Bool.and_eq_true,decide_eq_true_eq] at h
 rw [show 48+(c.toNat - 48)=c.toNat from by omega]
 simp
theorem decDigits_strip (k:Nat):∀ (l:List UInt8) (n:Nat),l.length≤k→l ≠ []→dgs l→Lib.decFrom 0 l=some n→Lib.decDigits n=strip l:=by
 induction k with
 | zero=>intro l n h hne;exact absurd (List.eq_nil_of_length_eq_zero (by omega)) hne
 | succ k ih =>
  intro l n hk hne hd hn
  obtain ⟨r,c,rfl⟩:∃ r c,l=r ++ [c]:=⟨l.dropLast,l.getLast hne,(List.dropLast_concat_getLast hne).symm⟩
  have hc:=hd c (by simp)
  have hdr:dgs r:=fun x hx=>hd x (by simp [hx])
  obtain ⟨m,hm⟩:=decFrom_some r 0 hdr
  have e:=decFrom_snoc r 0 m c hm hc
  rw [hn,Option.some.injEq] at e
  have hc2:=hc
  simp only [isDigB,Bool.and_eq_true,decide_eq_true_eq] at hc2
  by_cases hr:r = []
  · subst hr
    simp only [Lib.decFrom,Option.some.injEq] at hm
    subst hm
    rw [Lib.decDigits,dif_pos (by omega),e,Nat.zero_mul,Nat.zero_add,u8_back hc]
    rfl
  · rw [strip_snoc r m c hr hdr hm]
    by_cases hz:m=0
    · rw [if_pos hz,Lib.decDigits,dif_pos (by omega),e,hz,Nat.zero_mul,Nat.zero_add,u8_back hc]
    · rw [if_neg hz,Lib.decDigits,dif_neg (by omega),show n / 10=m from by omega,show n % 10=c.toNat - 48 from by omega,u8_back hc,ih r m (by simp at hk;omega) hr hdr hm]
theorem itoa_strip {t:ByteArray} (h:numB t=true):0≤numVal t∧numVal t≤9223372036854775807∧(⟨(Lib.itoa (numVal t)).toArray⟩:ByteArray)=stripT t:=by
 obtain ⟨h1,h2,h3⟩:=num_all h
 have hl:t.data.toList.length=t.size:=by simp
 have hne:t.data.toList ≠ []:=by
  intro e;rw [e] at hl;simp at hl;omega
 have hd:dgs t.data.toList:=fun x hx=>h3 x hx
 obtain ⟨n,hn⟩:=decFrom_some t.data.toList 0 hd
 have hv:numVal t=(n:Int):=by
  have ha:=(num_atoi h).2
  cases hc:t.data.toList with
  | nil=>exact absurd hc hne
  | cons x r =>
   have hx:=hd x (by rw [hc];simp)
   simp only [isDigB,Bool.and_eq_true,decide_eq_true_eq] at hx
   have n1:(x == 45)=false:=by
    rw [beq_eq_false_iff_ne];rintro rfl;simp at hx
   have n2:(x == 43)=false:=by
    rw [beq_eq_false_iff_ne];rintro rfl;simp at hx
   rw [hc] at ha hn
   unfold Lib.atoi at ha
   simp [n1,n2,Lib.decNat,hn] at ha
   exact ha.symm
 have hlen:n < 10 ^ 18:=by
  have:∀ (l:List UInt8) (acc m:Nat),dgs l→Lib.decFrom acc l=some m→m < (acc+1) * 10 ^ l.length:=by
   intro l
   induction l with
   | nil=>intro acc m _ h;simp only [Lib.decFrom,Option.some.injEq] at h;simp;omega
   | cons b r ih =>
    intro acc m hd h
    have hb:=hd b (by simp)
    simp only [Lib.decFrom,digitVal_of hb] at h
    have:=ih _ m (fun x hx=>hd x (by simp [hx])) h
    simp only [isDigB,Bool.and_eq_true,decide_eq_true_eq] at hb
    have e:(acc * 10+(b.toNat - 48)+1) * 10 ^ r.length≤(acc+1) * 10 ^ (r.length+1):=by
     rw [Nat.pow_succ,←Nat.mul_assoc,Nat.mul_right_comm]
     exact Nat.mul_le_mul_right _ (by omega)
    simp only [List.length_cons]
    omega
  have:=this _ 0 n hd hn
  have h9:10 ^ t.data.toList.length≤10 ^ 18:=Nat.pow_le_pow_right (by omega) (by omega)
  omega
 refine ⟨by omega,by omega,?_⟩
 unfold stripT
 rw [hv]
 have:Lib.itoa (n:Int)=Lib.decDigits n:=by
  unfold Lib.itoa
  rw [if_neg (by omega)];simp
 rw [this,decDigits_strip _ _ n (Nat.le_refl _) hne hd hn]
theorem PT.on {B:Nat} {w w':World} (h:PT B w) (hb:Below B w w'):PT B w':=Lib.TabBelow.on h hb
theorem Adds.byte {B b:Nat} {bs:List Value} {c:UInt8} {w w':World} (h:IsB B b (bs ++ [.int .u8 c.toNat]) w'∧Below B w w'∧KT b w w'):Adds B b bs ⟨#[c]⟩ w w':=⟨by simpa [Lib.strCells,Lib.byteCells] using h.1,h.2.1,h.2.2⟩
theorem methNumber (n:Int) (w:World):(method 414 197 (.int .i64 n) "almanac/lang.write").run Tryz.prog w = .ok (247,(.int .i64 n)) w:=by kernel_rfl
theorem entNumber (args:Array Value) (w:World):(callFunc 247 args).run Tryz.prog w = .ok (.enter 247 args) w:=by kernel_rfl
theorem methTruth (n:Bool) (w:World):(method 414 290 (.bool n) "almanac/lang.write").run Tryz.prog w = .ok (260,(.bool n)) w:=by kernel_rfl
theorem entTruth (args:Array Value) (w:World):(callFunc 260 args).run Tryz.prog w = .ok (.enter 260 args) w:=by kernel_rfl
theorem methName (n:ByteArray) (w:World):(method 414 291 (.string n) "almanac/lang.write").run Tryz.prog w = .ok (264,(.string n)) w:=by kernel_rfl
theorem entName (args:Array Value) (w:World):(callFunc 264 args).run Tryz.prog w = .ok (.enter 264 args) w:=by kernel_rfl
theorem methPair (n:Value) (w:World):(method 414 271 n "almanac/lang.write").run Tryz.prog w = .ok (253,n) w:=by kernel_rfl
theorem entPair (args:Array Value) (w:World):(callFunc 253 args).run Tryz.prog w = .ok (.enter 253 args) w:=by kernel_rfl
theorem methChoice (n:Value) (w:World):(method 414 293 n "almanac/lang.write").run Tryz.prog w = .ok (268,n) w:=by kernel_rfl
theorem entChoice (args:Array Value) (w:World):(callFunc 268 args).run Tryz.prog w = .ok (.enter 268 args) w:=by kernel_rfl
theorem writes_number {t:ByteArray} (ht:numB t=true):Writes (.iface 197 (.int .i64 (numVal t))) (stripT t):=by
 obtain ⟨h0,h1,he⟩:=itoa_strip ht
 refine ⟨_,_,_,_,rfl,methNumber _,entNumber,by kernel_rfl,fun B b bs w hb hl hB hp => ?_⟩
 have HB:=hid hb
 have HP:=hid hp
 have HE:=hid he
 have HL:=hid hl
 generalize numVal t=z at h0 h1 HE ⊢
 clear hb hp he hl ht
 go_enter Tryz.func247,Tryz.ntmps247
 go_wp2_with fail
 refine (Tryz.strconv_FormatInt_10 z (by omega) h1 _ (Lib.TabBelow.here HP.out)).mono ?_
 rintro e w1 ⟨rfl,k,os,rfl⟩
 rw [HE.out]
 have hg:=below_growN w k os
 have HG:=hid hg
 have HB1:=hid (HB.out.below hg)
 clear hg
 go_wp2_with fail
 refine (bWriteString B b bs (stripT t) _ HB1.out HL.out (Nat.le_trans hB HG.out.size)).mono ?_
 rintro e w2 ⟨rfl,h1,h2,h3⟩
 have HA:=hid ((Adds.mk h1 h2 h3).from HG.out hB)
 clear h1 h2 h3
 go_wp2
 go_end0
 exact ⟨⟨_,rfl⟩,HA.out⟩
theorem writes_truth (n:Bool):Writes (.iface 290 (.bool n)) ⟨(Lib.formatBool n).toArray⟩:=by
 refine ⟨_,_,_,_,rfl,methTruth _,entTruth,by kernel_rfl,fun B b bs w hb hl hB hp => ?_⟩
 have HB:=hid hb
 have HL:=hid hl
 clear hb hp hl
 go_enter Tryz.func260,Tryz.ntmps260
 go_wp2_with fail
 refine (Tryz.strconv_FormatBool n _).mono ?_
 rintro e w1 ⟨rfl,rfl⟩
 go_wp2_with fail
 refine (bWriteString B b bs _ _ HB.out HL.out hB).mono ?_
 rintro e w2 ⟨rfl,h1,h2,h3⟩
 have HA:=hid (Adds.mk h1 h2 h3)
 clear h1 h2 h3
 go_wp2
 go_end0
 exact ⟨⟨_,rfl⟩,HA.out⟩
theorem writes_name (t:ByteArray):Writes (.iface 291 (.string t)) t:=by
 refine ⟨_,_,_,_,rfl,methName _,entName,by kernel_rfl,fun B b bs w hb hl hB hp => ?_⟩
 have HB:=hid hb
 have HL:=hid hl
 clear hb hp hl
 go_enter Tryz.func264,Tryz.ntmps264
 go_wp2_with fail
 refine (bWriteString B b bs _ _ HB.out HL.out hB).mono ?_
 rintro e w2 ⟨rfl,h1,h2,h3⟩
 have HA:=hid (Adds.mk h1 h2 h3)
 clear h1 h2 h3
 go_wp2
 go_end0
 exact ⟨⟨_,rfl⟩,HA.out⟩
theorem writes_pair {op:List UInt8} {l r:Value} {s1 s2:ByteArray} (hl:Writes l s1) (hr:Writes r s2):Writes (mkPair ⟨⟨op⟩⟩ l r) (pairT op s1 s2):=by
 obtain ⟨T1,v1,u1,F1,rfl,m1,e1,_,c1⟩:=hl
 obtain ⟨T2,v2,u2,F2,rfl,m2,e2,_,c2⟩:=hr
 have HC1:=hid c1
 have HC2:=hid c2
 clear c1 c2
 refine ⟨_,_,_,_,rfl,methPair _,entPair,by kernel_rfl,fun B b bs w hb hl hB hp => ?_⟩
 have hbl:=below_new w (.cells #[.string ⟨⟨op⟩⟩, .iface T1 v1, .iface T2 v2] 271)
 have HB:=hid (hb.below hbl)
 have HBL:=hid hbl
 have HP:=hid (hp.on (below_mono hB hbl))
 have HN:=hid (new_heap w (.cells #[.string ⟨⟨op⟩⟩, .iface T1 v1, .iface T2 v2] 271))
 have hne:w.heap.size≠b:=Nat.ne_of_gt hb.lt
 have hB1:B≤(w.alloc (.cells #[.string ⟨⟨op⟩⟩, .iface T1 v1, .iface T2 v2] 271)).heap.size:=by simp;omega
 have HB1:=hid hB1
 have HLN:=hid hl
 clear hb hp hbl hB1 hl
 go_enter Tryz.func253,Tryz.ntmps253
 go_wp2_with fail
 refine (bWriteByte B b bs 40 _ HB.out (by have:=HLN.out;simp only [pairT,choiceT,List.length_append,Lib.strCells_length,ByteArray.size_append,bsz1,sz1,LIM,List.length_cons,List.length_nil] at *;omega) HB1.out).mono ?_
 rintro e w1 ⟨rfl,hadd⟩
 have hadd:=Adds.byte (c:=40) hadd
 have HA1:=hid hadd
 have hk:=HA1.out.kt.get HN.out hne (by decide)
 have k1_0:World.cell? _ ⟨w.heap.size,0,none⟩=some (.string ⟨⟨op⟩⟩):=heap_cell (i:=0) hk
 have k1_1:World.cell? _ ⟨w.heap.size,1,none⟩=some (.iface T1 v1):=heap_cell (i:=1) hk
 have k1_2:World.cell? _ ⟨w.heap.size,2,none⟩=some (.iface T2 v2):=heap_cell (i:=2) hk
 clear hk hadd
 go_wp2_with fail
 refine (HC1.out B b (bs ++ Lib.strCells (⟨#[40]⟩)) _ HA1.out.bd (by have:=HLN.out;simp only [pairT,choiceT,List.length_append,Lib.strCells_length,ByteArray.size_append,bsz1,sz1,LIM,List.length_cons,List.length_nil] at *;omega) (Nat.le_trans HB1.out HA1.out.bl.size) (HP.out.on HA1.out.bl)).mono ?_
 rintro e w2 ⟨⟨rv2,rfl⟩,hadd⟩
 have HA2:=hid (HA1.out.trans hadd)
 have hk:=HA2.out.kt.get HN.out hne (by decide)
 have k2_0:World.cell? _ ⟨w.heap.size,0,none⟩=some (.string ⟨⟨op⟩⟩):=heap_cell (i:=0) hk
 have k2_1:World.cell? _ ⟨w.heap.size,1,none⟩=some (.iface T1 v1):=heap_cell (i:=1) hk
 have k2_2:World.cell? _ ⟨w.heap.size,2,none⟩=some (.iface T2 v2):=heap_cell (i:=2) hk
 clear hk hadd
 go_wp2_with fail
 refine (bWriteString B b (bs ++ Lib.strCells (⟨#[40]⟩ ++ s1)) ⟨⟨op⟩⟩ _ HA2.out.bd (by have:=HLN.out;simp only [pairT,choiceT,List.length_append,Lib.strCells_length,ByteArray.size_append,bsz1,sz1,LIM,List.length_cons,List.length_nil] at *;omega) (Nat.le_trans HB1.out HA2.out.bl.size)).mono ?_
 rintro e w3 ⟨rfl,hadd1,hadd2,hadd3⟩
 have hadd:=Adds.mk hadd1 hadd2 hadd3
 clear hadd1 hadd2 hadd3
 have HA3:=hid (HA2.out.trans hadd)
 have hk:=HA3.out.kt.get HN.out hne (by decide)
 have k3_0:World.cell? _ ⟨w.heap.size,0,none⟩=some (.string ⟨⟨op⟩⟩):=heap_cell (i:=0) hk
 have k3_1:World.cell? _ ⟨w.heap.size,1,none⟩=some (.iface T1 v1):=heap_cell (i:=1) hk
 have k3_2:World.cell? _ ⟨w.heap.size,2,none⟩=some (.iface T2 v2):=heap_cell (i:=2) hk
 clear hk hadd
 go_wp2_with fail
 refine (HC2.out B b (bs ++ Lib.strCells (⟨#[40]⟩ ++ s1 ++ ⟨⟨op⟩⟩)) _ HA3.out.bd (by have:=HLN.out;simp only [pairT,choiceT,List.length_append,Lib.strCells_length,ByteArray.size_append,bsz1,sz1,LIM,List.length_cons,List.length_nil] at *;omega) (Nat.le_trans HB1.out HA3.out.bl.size) (HP.out.on HA3.out.bl)).mono ?_
 rintro e w4 ⟨⟨rv4,rfl⟩,hadd⟩
 have HA4:=hid (HA3.out.trans hadd)
 have hk:=HA4.out.kt.get HN.out hne (by decide)
 have k4_0:World.cell? _ ⟨w.heap.size,0,none⟩=some (.string ⟨⟨op⟩⟩):=heap_cell (i:=0) hk
 have k4_1:World.cell? _ ⟨w.heap.size,1,none⟩=some (.iface T1 v1):=heap_cell (i:=1) hk
 have k4_2:World.cell? _ ⟨w.heap.size,2,none⟩=some (.iface T2 v2):=heap_cell (i:=2) hk
 clear hk hadd
 go_wp2_with fail
 refine (bWriteByte B b (bs ++ Lib.strCells (⟨#[40]⟩ ++ s1 ++ ⟨⟨op⟩⟩ ++ s2)) 41 _ HA4.out.bd (by have:=HLN.out;simp only [pairT,choiceT,List.length_append,Lib.strCells_length,ByteArray.size_append,bsz1,sz1,LIM,List.length_cons,List.length_nil] at *;omega) (Nat.le_trans HB1.out HA4.out.bl.size)).mono ?_
 rintro e w5 ⟨rfl,hadd⟩
 have hadd:=Adds.byte (c:=41) hadd
 have HA5:=hid (HA4.out.trans hadd)
 have hk:=HA5.out.kt.get HN.out hne (by decide)
 have k5_0:World.cell? _ ⟨w.heap.size,0,none⟩=some (.string ⟨⟨op⟩⟩):=heap_cell (i:=0) hk
 have k5_1:World.cell? _ ⟨w.heap.size,1,none⟩=some (.iface T1 v1):=heap_cell (i:=1) hk
 have k5_2:World.cell? _ ⟨w.heap.size,2,none⟩=some (.iface T2 v2):=heap_cell (i:=2) hk
 clear hk hadd
 go_wp2
 go_end0
 exact ⟨⟨_,rfl⟩,HA5.out.from HBL.out hB⟩
theorem writes_choice {x y z:Value} {s1 s2 s3:ByteArray} (hx:Writes x s1) (hy:Writes y s2) (hz:Writes z s3):Writes (mkChoice x y z) (choiceT s1 s2 s3):=by
 obtain ⟨T1,v1,u1,F1,rfl,m1,e1,_,c1⟩:=hx
 obtain ⟨T2,v2,u2,F2,rfl,m2,e2,_,c2⟩:=hy
 obtain ⟨T3,v3,u3,F3,rfl,m3,e3,_,c3⟩:=hz
 have HC1:=hid c1
 have HC2:=hid c2
 have HC3:=hid c3
 clear c1 c2 c3
 refine ⟨_,_,_,_,rfl,methChoice _,entChoice,by kernel_rfl,fun B b bs w hb hl hB hp => ?_⟩
 have hbl:=below_new w (.cells #[.iface T1 v1, .iface T2 v2, .iface T3 v3] 293)
 have HB:=hid (hb.below hbl)
 have HBL:=hid hbl
 have HP:=hid (hp.on (below_mono hB hbl))
 have HN:=hid (new_heap w (.cells #[.iface T1 v1, .iface T2 v2, .iface T3 v3] 293))
 have hne:w.heap.size≠b:=Nat.ne_of_gt hb.lt
 have hB1:B≤(w.alloc (.cells #[.iface T1 v1, .iface T2 v2, .iface T3 v3] 293)).heap.size:=by simp;omega
 have HB1:=hid hB1
 have HLN:=hid hl
 clear hb hp hbl hB1 hl
 go_enter Tryz.func268,Tryz.ntmps268
 go_wp2_with fail
 refine (bWriteByte B b bs 40 _ HB.out (by have:=HLN.out;simp only [pairT,choiceT,List.length_append,Lib.strCells_length,ByteArray.size_append,bsz1,sz1,LIM,List.length_cons,List.length_nil] at *;omega) HB1.out).mono ?_
 rintro e w1 ⟨rfl,hadd⟩
 have hadd:=Adds.byte (c:=40) hadd
 have HA1:=hid hadd
 have hk:=HA1.out.kt.get HN.out hne (by decide)
 have k1_0:World.cell? _ ⟨w.heap.size,0,none⟩=some (.iface T1 v1):=heap_cell (i:=0) hk
 have k1_1:World.cell? _ ⟨w.heap.size,1,none⟩=some (.iface T2 v2):=heap_cell (i:=1) hk
 have k1_2:World.cell? _ ⟨w.heap.size,2,none⟩=some (.iface T3 v3):=heap_cell (i:=2) hk
 clear hk hadd
 go_wp2_with fail
 refine (HC1.out B b (bs ++ Lib.strCells (⟨#[40]⟩)) _ HA1.out.bd (by have:=HLN.out;simp only [pairT,choiceT,List.length_append,Lib.strCells_length,ByteArray.size_append,bsz1,sz1,LIM,List.length_cons,List.length_nil] at *;omega) (Nat.le_trans HB1.out HA1.out.bl.size) (HP.out.on HA1.out.bl)).mono ?_
 rintro e w2 ⟨⟨rv2,rfl⟩,hadd⟩
 have HA2:=hid (HA1.out.trans hadd)
 have hk:=HA2.out.kt.get HN.out hne (by decide)
 have k2_0:World.cell? _ ⟨w.heap.size,0,none⟩=some (.iface T1 v1):=heap_cell (i:=0) hk
 have k2_1:World.cell? _ ⟨w.heap.size,1,none⟩=some (.iface T2 v2):=heap_cell (i:=1) hk
 have k2_2:World.cell? _ ⟨w.heap.size,2,none⟩=some (.iface T3 v3):=heap_cell (i:=2) hk
 clear hk hadd
 go_wp2_with fail
 refine (bWriteByte B b (bs ++ Lib.strCells (⟨#[40]⟩ ++ s1)) 63 _ HA2.out.bd (by have:=HLN.out;simp only [pairT,choiceT,List.length_append,Lib.strCells_length,ByteArray.size_append,bsz1,sz1,LIM,List.length_cons,List.length_nil] at *;omega) (Nat.le_trans HB1.out HA2.out.bl.size)).mono ?_
 rintro e w3 ⟨rfl,hadd⟩
 have hadd:=Adds.byte (c:=63) hadd
 have HA3:=hid (HA2.out.trans hadd)
 have hk:=HA3.out.kt.get HN.out hne (by decide)
 have k3_0:World.cell? _ ⟨w.heap.size,0,none⟩=some (.iface T1 v1):=heap_cell (i:=0) hk
 have k3_1:World.cell? _ ⟨w.heap.size,1,none⟩=some (.iface T2 v2):=heap_cell (i:=1) hk
 have k3_2:World.cell? _ ⟨w.heap.size,2,none⟩=some (.iface T3 v3):=heap_cell (i:=2) hk
 clear hk hadd
 go_wp2_with fail
 refine (HC2.out B b (bs ++ Lib.strCells (⟨#[40]⟩ ++ s1 ++ ⟨#[63]⟩)) _ HA3.out.bd (by have:=HLN.out;simp only [pairT,choiceT,List.length_append,Lib.strCells_length,ByteArray.size_append,bsz1,sz1,LIM,List.length_cons,List.length_nil] at *;omega) (Nat.le_trans HB1.out HA3.out.bl.size) (HP.out.on HA3.out.bl)).mono ?_
 rintro e w4 ⟨⟨rv4,rfl⟩,hadd⟩
 have HA4:=hid (HA3.out.trans hadd)
 have hk:=HA4.out.kt.get HN.out hne (by decide)
 have k4_0:World.cell? _ ⟨w.heap.size,0,none⟩=some (.iface T1 v1):=heap_cell (i:=0) hk
 have k4_1:World.cell? _ ⟨w.heap.size,1,none⟩=some (.iface T2 v2):=heap_cell (i:=1) hk
 have k4_2:World.cell? _ ⟨w.heap.size,2,none⟩=some (.iface T3 v3):=heap_cell (i:=2) hk
 clear hk hadd
 go_wp2_with fail
 refine (bWriteByte B b (bs ++ Lib.strCells (⟨#[40]⟩ ++ s1 ++ ⟨#[63]⟩ ++ s2)) 58 _ HA4.out.bd (by have:=HLN.out;simp only [pairT,choiceT,List.length_append,Lib.strCells_length,ByteArray.size_append,bsz1,sz1,LIM,List.length_cons,List.length_nil] at *;omega) (Nat.le_trans HB1.out HA4.out.bl.size)).mono ?_
 rintro e w5 ⟨rfl,hadd⟩
 have hadd:=Adds.byte (c:=58) hadd
 have HA5:=hid (HA4.out.trans hadd)
 have hk:=HA5.out.kt.get HN.out hne (by decide)
 have k5_0:World.cell? _ ⟨w.heap.size,0,none⟩=some (.iface T1 v1):=heap_cell (i:=0) hk
 have k5_1:World.cell? _ ⟨w.heap.size,1,none⟩=some (.iface T2 v2):=heap_cell (i:=1) hk
 have k5_2:World.cell? _ ⟨w.heap.size,2,none⟩=some (.iface T3 v3):=heap_cell (i:=2) hk
 clear hk hadd
 go_wp2_with fail
 refine (HC3.out B b (bs ++ Lib.strCells (⟨#[40]⟩ ++ s1 ++ ⟨#[63]⟩ ++ s2 ++ ⟨#[58]⟩)) _ HA5.out.bd (by have:=HLN.out;simp only [pairT,choiceT,List.length_append,Lib.strCells_length,ByteArray.size_append,bsz1,sz1,LIM,List.length_cons,List.length_nil] at *;omega) (Nat.le_trans HB1.out HA5.out.bl.size) (HP.out.on HA5.out.bl)).mono ?_
 rintro e w6 ⟨⟨rv6,rfl⟩,hadd⟩
 have HA6:=hid (HA5.out.trans hadd)
 have hk:=HA6.out.kt.get HN.out hne (by decide)
 have k6_0:World.cell? _ ⟨w.heap.size,0,none⟩=some (.iface T1 v1):=heap_cell (i:=0) hk
 have k6_1:World.cell? _ ⟨w.heap.size,1,none⟩=some (.iface T2 v2):=heap_cell (i:=1) hk
 have k6_2:World.cell? _ ⟨w.heap.size,2,none⟩=some (.iface T3 v3):=heap_cell (i:=2) hk
 clear hk hadd
 go_wp2_with fail
 refine (bWriteByte B b (bs ++ Lib.strCells (⟨#[40]⟩ ++ s1 ++ ⟨#[63]⟩ ++ s2 ++ ⟨#[58]⟩ ++ s3)) 41 _ HA6.out.bd (by have:=HLN.out;simp only [pairT,choiceT,List.length_append,Lib.strCells_length,ByteArray.size_append,bsz1,sz1,LIM,List.length_cons,List.length_nil] at *;omega) (Nat.le_trans HB1.out HA6.out.bl.size)).mono ?_
 rintro e w7 ⟨rfl,hadd⟩
 have hadd:=Adds.byte (c:=41) hadd
 have HA7:=hid (HA6.out.trans hadd)
 have hk:=HA7.out.kt.get HN.out hne (by decide)
 have k7_0:World.cell? _ ⟨w.heap.size,0,none⟩=some (.iface T1 v1):=heap_cell (i:=0) hk
 have k7_1:World.cell? _ ⟨w.heap.size,1,none⟩=some (.iface T2 v2):=heap_cell (i:=1) hk
 have k7_2:World.cell? _ ⟨w.heap.size,2,none⟩=some (.iface T3 v3):=heap_cell (i:=2) hk
 clear hk hadd
 go_wp2
 go_end0
 exact ⟨⟨_,rfl⟩,HA7.out.from HBL.out hB⟩
end Go.Proofs.YthibodlojlkppaaGreatDoor
namespace Go.Proofs.YthibodlojlkppaaGreatDoor
open Go.RowKit
theorem strip_len:∀ l:List UInt8,(strip l).length≤l.length
 | []=>Nat.le_refl _
 | [_]=>Nat.le_refl _
 | c :: d :: r=>by
  unfold strip
  split
  · have:=strip_len (d :: r);simp at *;omega
  · exact Nat.le_refl _
theorem shownT_size (t:ByteArray) (ht:t.size≤400):(shownT t).size≤400:=by
 unfold shownT
 split
 · have:=strip_len t.data.toList
   have e:(stripT t).size=(strip t.data.toList).length:=by unfold stripT;exact bsz1 _
   have e2:t.data.toList.length=t.size:=by simp
   omega
 · exact ht
theorem pairT_size (op:List UInt8) (x y:ByteArray):(pairT op x y).size=x.size+y.size+op.length+2:=by
 simp only [pairT,ByteArray.size_append,bsz1,List.length_cons,List.length_nil];omega
theorem choiceT_size (x y z:ByteArray):(choiceT x y z).size=x.size+y.size+z.size+4:=by
 simp only [choiceT,ByteArray.size_append,sz1,bsz1,List.length_cons,List.length_nil];omega
def ParsePost (toks:List Tok) (w:World):Ending→World→Prop:=fun e w' =>
 ∃ v xs,e = .returned (.tuple #[v,faultV (treeAll toks).2])∧w'.ownsRow w.heap.size 999999999 7 v (treeAll toks).1.length xs∧Its (fun k=>w.heap.size < k∧v.ownBlock≠some k) w' (treeAll toks).1 xs∧Below w.heap.size w w'
theorem QS.post {toks:List Tok} {tb cap:Nat} {w wr:World} {a:Nat} {no:Bool} {v:Value} {acc:List It} {xs:List Value} (h:QS toks tb cap w wr a no v acc xs) {fl:Option Nat} (ht:(acc,fl)=treeAll toks):ParsePost toks w (.returned (.tuple #[v,faultV fl])) wr:=by
 have e1:(treeAll toks).1=acc:=by rw [←ht]
 have e2:(treeAll toks).2=fl:=by rw [←ht]
 refine ⟨v,xs,by rw [e2],?_,by rw [e1];exact h.its,h.bl⟩
 rw [e1]
 obtain ⟨hl,h2 | ⟨g,c,cur,hv,hb,hr⟩⟩:=h.own
 · exact ⟨hl, .inl h2⟩
 · exact ⟨hl, .inr ⟨g,c,cur,hv,by omega,hr⟩⟩
end Go.Proofs.YthibodlojlkppaaGreatDoor
namespace Go.Proofs.YthibodlojlkppaaGreatDoor
variable [DecidableEq K] [LawfulBEq Lk]
section
variable {V:Type} {wp:K→Prog V} {lp:V} {F:Txt} {a:K→V} {U:List K} {M Q:Nat}
theorem drops_none {n:Nat} {st st':St V} (hd:Drops n st st') (hl:st.kept.length≤n):st'=st:=by
 obtain ⟨m,hm⟩:=hd
 cases m with
 | zero=>exact hm.2.symm
 | succ m=>obtain ⟨k,h,_⟩:=hm;omega
theorem ask_again {k:K} {st:St V} (hi:Inv F a st) (hid:Idle st) (hk:k∈st.kept) (hz:k.file.size≤BIG∧k.name.size≤BIG) (hu:st.uses+1 < W64) (nc:Bool) :
 ∃ st1,fetC (engM wp lp 1) nc k [] { st with began:=[] }=some (.ok (a k,[.slot k]),st1)∧Asked F a k st1∧st1.uses=st.uses+1∧st1.began = []∧st1.kept=st.kept:=by
 have hi0:=hi.beg
 obtain ⟨m,x,hm,hx⟩:=(hi0.kp k).1 hk
 have hmo:=hi0.mem k m hm
 have hfind:({ st with began:=[] }:St V).find k = { st with began:=[] }:=by unfold St.find;rw [hm]
 have ha:m.act=false:=by have:=hid k;unfold actB at this;simp only [show st.sl k=some m from hm] at this;exact this
 have hver:m.ver=some st.rev:=by
  cases hv:m.ver with
  | none=>rw [hmo.v0 hv] at hx;cases hx
  | some v=>rw [hmo.v1 v hv]
 have hi1:Inv F a (({ st with began:=[] }:St V).put k { m with act:=true }):=hi0.put hm ⟨hmo.v0,hmo.v1,hmo.v2,hmo.us⟩ rfl
 obtain ⟨b1,b2,b3,b4,b5,b6,b7⟩:=hi1.use (k:=k) hk hu
 have hs1:=b6 { m with act:=true } (by simp [St.put])
 have hin:inner wp (engM wp lp 0) k (({ st with began:=[] }:St V).put k { m with act:=true })=some (.ok (),(({ st with began:=[] }:St V).put k { m with act:=true }).use k):=by
  unfold inner
  rw [show (({ st with began:=[] }:St V).put k { m with act:=true }).sl k=some { m with act:=true } by simp [St.put]]
  simp only [hver]
  exact (if_pos rfl).trans (if_pos hk)
 have hset:engM wp lp 1 k { st with began:=[] }=some (.ok (),((({ st with began:=[] }:St V).put k { m with act:=true }).use k).leave k):=by
  show settleM wp lp (engM wp lp 0) k { st with began:=[] }=_
  unfold settleM
  have hm':st.sl k=some m:=hm
  simp only [hm',ha,Bool.false_eq_true,if_false,hin]
 have hpk:PostK F a [] k { st with began:=[] } ((({ st with began:=[] }:St V).put k { m with act:=true }).use k) :=
  ⟨b1,(Mono.put (st:=({ st with began:=[] }:St V)) (k:=k) (m':={ m with act:=true })).trans b2,by unfold KB;rw [b4];exact Nat.le_refl _⟩
 obtain ⟨c1,c2,c3,c4⟩:=leave_ok (M:=0) (Q:=0) hm ha hpk hs1
 have hl:=c4 b7
 refine ⟨_,?_,⟨c1.inv,hl,fun c=>(c1.mono.actB c).trans (hid c)⟩,?_,?_,?_⟩
 · unfold fetC
   rw [if_neg (by omega),if_neg (by simp),hfind,hset]
   simp [hl.val c1.inv,BIG]
 · unfold St.leave
   rw [hs1]
   exact b5
 · unfold St.leave
   rw [hs1]
   exact b3
 · unfold St.leave
   rw [hs1]
   exact b4
end
end Go.Proofs.YthibodlojlkppaaGreatDoor

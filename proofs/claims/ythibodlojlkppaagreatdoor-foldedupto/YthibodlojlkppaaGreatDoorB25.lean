/-
  Numbers as texts: what the program writes, and a text of digits without noughts ahead. The program's write: what each expr adds to a builder. Files' names; faults; worths read and written. The document's parser: what its functions hold while they run. The document's parser: an item's steps. The document's parser: all items. The program's write of an item, the document's line of an item. The progra
-/
import Derived.Test.YthibodlojlkppaaGreatDoorB03
import Derived.Test.YthibodlojlkppaaGreatDoorB06
import Derived.Test.YthibodlojlkppaaGreatDoorB08
import Derived.Test.YthibodlojlkppaaGreatDoorB20
import Derived.Test.YthibodlojlkppaaGreatDoorB21
import Derived.Test.YthibodlojlkppaaGreatDoorB24
import Derived.Test.YthibodlojlkppaaGreatDoorShelf
import Derived.Lib.AppendIntMem
import Derived.Deep.LoopGhost
import Derived.BigRegion
import Derived.Maps.AppendAt
set_option linter.unusedVariables false
set_option linter.unusedSectionVars false
set_option linter.unusedSimpArgs false
set_option maxRecDepth 100000
set_option maxHeartbeats 40000000

namespace Go.Proofs.YthibodlojlkppaaGreatDoor
open Go.RowKit Go.Sort
theorem below_growN (w:World) (k:Nat) (os:Array Obj):Below w.heap.size w (grow (w.drewN k) os):=by
 refine ⟨rfl,rfl,rfl,?_,fun j hj => ?_⟩
 · show w.heap.size≤(w.heap ++ os).size
   rw [Array.size_append];omega
 · show (w.heap ++ os)[j]? = w.heap[j]?
   rw [Array.getElem?_append_left hj]
theorem sz1 (c:UInt8):(⟨#[c]⟩:ByteArray).size=1:=rfl
theorem bsz1 (l:List UInt8):(⟨⟨l⟩⟩:ByteArray).size=l.length:=by simp [ByteArray.size]
abbrev LIM:Nat:=140737488355328
def PT (B:Nat) (w:World):Prop:=Lib.TabBelow Tryz.prog B w "internal/strconv.uint64pow10" .u64 Lib.pow10Tab
theorem IsB.below {B b:Nat} {bs:List Value} {w w':World} (h:IsB B b bs w) (hb:Below w.heap.size w w'):IsB B b bs w':=by
 have key:∀ p,BAt B b p bs w→BAt B b p bs w':=by
  rintro p ⟨hB,v,hbk,hown,hne⟩
  exact ⟨hB,v,below_heap hb (heap_lt hbk) hbk,own_block hown fun g _ hg=>hb.block g hg,hne⟩
 rcases h with h | h
 · exact .inl (key _ h)
 · exact .inr (key _ h)
theorem IsB.lt {B b:Nat} {bs:List Value} {w:World} (h:IsB B b bs w):b < w.heap.size:=by
 rcases h with h | h
 · exact Lib.BuilderAt.lt h
 · exact Lib.BuilderAt.lt h
theorem KT.of_below {b:Nat} {w w':World} (h:Below w.heap.size w w'):KT b w w':=fun k hk _ _=>h.block k hk
structure Adds (B b:Nat) (bs:List Value) (s:ByteArray) (w w':World):Prop where
 bd:IsB B b (bs ++ Lib.strCells s) w'
 bl:Below B w w'
 kt:KT b w w'
def Writes (x:Value) (s:ByteArray):Prop :=
 ∃ (T:TypeId) (v u:Value) (F:FuncId),x = .iface T v∧(∀ w,(method 414 T v "almanac/lang.write").run Tryz.prog w = .ok (F,u) w)∧(∀ args w,(callFunc F args).run Tryz.prog w = .ok (.enter F args) w)∧Tryz.prog.inits.idxOf? F=none ∧
  ∀ (B b:Nat) (bs:List Value) (w:World),IsB B b bs w→bs.length+s.size≤LIM→B≤w.heap.size→PT B w →
   Calls Tryz.prog F #[u, .pointer (some ⟨b,0,none⟩)] w fun e w'=>(∃ r,e = .returned r)∧Adds B b bs s w w'
theorem strCells_append (s t:ByteArray):Lib.strCells (s ++ t)=Lib.strCells s ++ Lib.strCells t:=by
 simp [Lib.strCells,Lib.byteCells]
theorem Adds.trans {B b:Nat} {bs:List Value} {s t:ByteArray} {w w1 w2:World} (h:Adds B b bs s w w1) (k:Adds B b (bs ++ Lib.strCells s) t w1 w2):Adds B b bs (s ++ t) w w2 :=
 ⟨by rw [strCells_append,←List.append_assoc];exact k.bd,h.bl.trans k.bl,h.kt.trans h.bl.size k.kt⟩
theorem Adds.from {B b:Nat} {bs:List Value} {s:ByteArray} {w0 w w':World} (h:Adds B b bs s w w') (hb:Below w0.heap.size w0 w) (hB:B≤w0.heap.size):Adds B b bs s w0 w' :=
 ⟨h.bd,(below_mono hB hb).trans h.bl,(KT.of_below hb).trans hb.size h.kt⟩
end Go.Proofs.YthibodlojlkppaaGreatDoor
namespace Go.Proofs.YthibodlojlkppaaGreatDoor
open Go.RowKit
variable [DecidableEq K] [LawfulBEq Lk]
theorem isName_all (t:ByteArray) (w:World) :
 Calls Tryz.prog 35 #[.string t] w fun e w'=>e = .returned (.bool (nameB t))∧w'=w:=by
 by_cases h2:t.size≤8
 · exact isName_any t w (by unfold maxLen;omega)
 · have h1:1≤t.size:=by omega
   go_enter Tryz.func35,Tryz.ntmps35
   go_wp2
   go_ret
   exact ⟨ret_bool (by simp [nameB,h2]),rfl⟩
theorem isFile_any (t:ByteArray) (w:World) :
 Calls Tryz.prog 29 #[.string t] w fun e w'=>e = .returned (.bool (fileB t))∧w'=w:=by
 have HN:=hid (isName_all t w)
 obtain ⟨n,hn⟩:∃ n,n=nameB t:=⟨_,rfl⟩
 obtain ⟨a,ha⟩:∃ a,a=eqB t none_:=⟨_,rfl⟩
 obtain ⟨b,hb⟩:∃ b,b=eqB t two_:=⟨_,rfl⟩
 have h1:(t.toList == [110,111,110,101])=a:=(eqB_lit t [110,111,110,101]).symm.trans ha.symm
 have h2:(t.toList == [116,119,111])=b:=(eqB_lit t [116,119,111]).symm.trans hb.symm
 have hf:fileB t=(n && !a && !b):=by unfold fileB;rw [←hn,←ha,←hb]
 rw [hf]
 rw [←hn] at HN
 clear hn ha hb hf
 cases n
 all_goals cases a
 all_goals cases b
 all_goals
  go_enter Tryz.func29,Tryz.ntmps29
  go_wp2_with (first | (go_at_call 35;refine HN.out.mono ?_;rintro e w' ⟨rfl,rfl⟩))
  go_ret
  exact ⟨rfl,rfl⟩
theorem gravity_any (t:ByteArray) (w:World) :
 Calls Tryz.prog 130 #[.string t] w fun e w'=>e = .returned (.int .i64 (grav t))∧w'=w:=by
 obtain ⟨a,ha⟩:∃ a,a=eqB t cyc_:=⟨_,rfl⟩
 obtain ⟨b,hb⟩:∃ b,b=eqB t bad_:=⟨_,rfl⟩
 obtain ⟨c,hc⟩:∃ c,c=eqB t over_:=⟨_,rfl⟩
 have h1:(t.toList == [99,121,99,108,101])=a:=(eqB_lit t [99,121,99,108,101]).symm.trans ha.symm
 have h2:(t.toList == [98,97,100])=b:=(eqB_lit t [98,97,100]).symm.trans hb.symm
 have h3:(t.toList == [111,118,101,114])=c:=(eqB_lit t [111,118,101,114]).symm.trans hc.symm
 have hg:grav t=if a then 3 else if b then 2 else if c then 1 else 0:=by unfold grav;rw [←ha,←hb,←hc]
 rw [hg]
 clear ha hb hc hg
 cases a
 all_goals cases b
 all_goals cases c
 all_goals
  go_enter Tryz.func130,Tryz.ntmps130
  go_wp2
  go_ret
  exact ⟨rfl,rfl⟩
theorem worse_any (f v:ByteArray) (w:World) :
 Calls Tryz.prog 105 #[.string f, .string v] w fun e w'=>e = .returned (.string (worse f v))∧w'=w:=by
 by_cases h:grav f < grav v
 · have hw:worse f v=v:=by unfold worse;rw [if_pos h]
   rw [hw]
   have HG1:=hid (gravity_any v w)
   have HG2:=hid (gravity_any f w)
   obtain ⟨x,hx⟩:∃ x:Int,x=grav f:=⟨_,rfl⟩
   obtain ⟨y,hy⟩:∃ y:Int,y=grav v:=⟨_,rfl⟩
   have hlt:x < y:=by omega
   rw [←hx] at HG2
   rw [←hy] at HG1
   clear h hw hx hy
   go_enter Tryz.func105,Tryz.ntmps105
   go_wp2_with fail
   refine HG1.out.mono ?_
   rintro e w1 ⟨rfl,rfl⟩
   go_wp2_with fail
   refine HG2.out.mono ?_
   rintro e w2 ⟨rfl,rfl⟩
   go_wp2
   go_ret
   exact ⟨rfl,rfl⟩
 · have hw:worse f v=f:=by unfold worse;rw [if_neg h]
   rw [hw]
   have HG1:=hid (gravity_any v w)
   have HG2:=hid (gravity_any f w)
   obtain ⟨x,hx⟩:∃ x:Int,x=grav f:=⟨_,rfl⟩
   obtain ⟨y,hy⟩:∃ y:Int,y=grav v:=⟨_,rfl⟩
   have hlt:¬ (x < y):=by omega
   rw [←hx] at HG2
   rw [←hy] at HG1
   clear h hw hx hy
   go_enter Tryz.func105,Tryz.ntmps105
   go_wp2_with fail
   refine HG1.out.mono ?_
   rintro e w1 ⟨rfl,rfl⟩
   go_wp2_with fail
   refine HG2.out.mono ?_
   rintro e w2 ⟨rfl,rfl⟩
   go_wp2
   go_ret
   exact ⟨rfl,rfl⟩
theorem parseM_dec:∀ (l:List UInt8) (acc:Nat),(∀ x∈l,isDigB x.toNat=true)→(acc+1) * 10 ^ l.length≤10 ^ 10→∃ n,Lib.decFrom acc l=some n∧Lib.parseUintM 18446744073709551615 acc l = .ok n∧n < 10 ^ 10
 | [],acc,_,h=>⟨acc,rfl,rfl,by simp at h;omega⟩
 | c :: l,acc,hd,h=>by
  have hc:=hd c (by simp)
  unfold isDigB at hc
  simp only [Bool.and_eq_true,decide_eq_true_eq] at hc
  have hc:48≤c.toNat∧c.toNat≤57:=by omega
  have h10:1≤10 ^ l.length:=Nat.pow_pos (by decide)
  rw [List.length_cons,Nat.pow_succ,Nat.mul_comm (10 ^ l.length) 10,←Nat.mul_assoc] at h
  have hstep:(acc * 10+(c.toNat - 48)+1) * 10 ^ l.length≤10 ^ 10:=Nat.le_trans (Nat.mul_le_mul_right _ (by omega)) h
  have hacc:(acc+1) * 10≤10 ^ 10:=Nat.le_trans (Nat.le_mul_of_pos_right _ h10) h
  obtain ⟨n,h1,h2,h3⟩:=parseM_dec l (acc * 10+(c.toNat - 48)) (fun x hx=>hd x (List.mem_cons_of_mem _ hx)) hstep
  refine ⟨n,?_,?_,h3⟩
  · have hdv:Lib.digitVal c=some (c.toNat - 48):=if_pos hc
    simp only [Lib.decFrom,hdv];exact h1
  · rw [Lib.parseUintM,if_pos hc,if_neg (by omega),if_neg (by omega)]
    exact h2
theorem parse_num {t:ByteArray} (h:numB t=true):Lib.parseIntB 64 t.data.toList = .ok (numVal t):=by
 obtain ⟨h1,h2,h3⟩:=numB_digs h
 unfold numVal
 have hl:t.data.toList.length=t.size:=by simp
 generalize t.data.toList=l at *
 cases l with
 | nil=>simp at hl;omega
 | cons c r =>
  have hc:=h3 c (by simp)
  unfold isDigB at hc
  simp only [Bool.and_eq_true,decide_eq_true_eq] at hc
  have n1:(c == 45)=false:=by rw [beq_eq_false_iff_ne];rintro rfl;exact absurd hc.1 (by decide)
  have n2:(c == 43)=false:=by rw [beq_eq_false_iff_ne];rintro rfl;exact absurd hc.1 (by decide)
  obtain ⟨n,d1,d2,d3⟩:=parseM_dec (c :: r) 0 h3 (by
   have:10 ^ (c :: r).length≤10 ^ 9:=Nat.pow_le_pow_right (by omega) (by omega)
   omega)
  have m1:¬ (c.toNat=43∨c.toNat=45):=by omega
  have m2:¬ (c.toNat=45):=by omega
  simp only [Lib.atoi,n1,n2,Bool.false_eq_true,if_false,Lib.decNat,List.isEmpty_cons,d1]
  simp only [Lib.parseIntB,Lib.parseUintB,if_neg m1]
  rw [if_neg (by simp),show (2 ^ 64 - 1:Nat)=18446744073709551615 from rfl,d2]
  have:¬ (9223372036854775808≤n):=by omega
  simp [m2,this]
theorem fault_syn:Lib.parseIntB 64 cyc_.data.toList=Lib.parseIntB 64 []∧Lib.parseIntB 64 bad_.data.toList=Lib.parseIntB 64 []∧Lib.parseIntB 64 over_.data.toList=Lib.parseIntB 64 []∧Lib.parseIntB 64 none_.data.toList=Lib.parseIntB 64 []:=by
 refine ⟨?_,?_,?_,?_⟩ <;> rfl
def EOk (w:World):Prop:=∃ ev,w.cell? ⟨4,0,none⟩=some ev∧(ev = .nilIface∨∃ te pe,ev = .iface te pe)
theorem worth_true (w:World):Calls Tryz.prog 131 #[.bool true] w fun e w'=>e = .returned (.int .i64 1)∧w'=w:=worthOf_any true w
theorem worth_false (w:World):Calls Tryz.prog 131 #[.bool false] w fun e w'=>e = .returned (.int .i64 0)∧w'=w:=worthOf_any false w
theorem readWorth_any {v:ByteArray} (hv:valOk v=true) (w:World) (hg:EOk w) :
 Calls Tryz.prog 106 #[.string v] w fun e w'=>e = .returned (.int .i64 (readW v))∧Below w.heap.size w w':=by
 have hcase:v=true_∨v=false_∨((v.toList == [116,114,117,101])=false∧(v.toList == [102,97,108,115,101])=false∧v.size≤9∧((Lib.parseIntB 64 v.data.toList = .ok (readW v))∨(Lib.parseIntB 64 v.data.toList=Lib.parseIntB 64 []∧readW v=0))):=by
  unfold valOk at hv
  simp only [Bool.or_eq_true] at hv
  have hno:∀ x:ByteArray,v=x→eqB x true_=false→eqB x false_=false→(v.toList == [116,114,117,101])=false∧(v.toList == [102,97,108,115,101])=false:=by
   rintro x rfl h1 h2
   exact ⟨(eqB_lit v [116,114,117,101]).symm.trans h1,(eqB_lit v [102,97,108,115,101]).symm.trans h2⟩
  rcases hv with ((((((h | h) | h) | h) | h) | h) | h)
  · have ht:eqB v true_=false:=eqB_no (by rintro rfl;exact absurd h (by decide))
    have hf:eqB v false_=false:=eqB_no (by rintro rfl;exact absurd h (by decide))
    obtain ⟨a,b⟩:=hno v rfl ht hf
    refine .inr (.inr ⟨a,b,(numB_digs h).2.1, .inl ?_⟩)
    rw [parse_num h]
    simp [readW,ht,h]
  · exact .inl (eqB_is.1 h)
  · exact .inr (.inl (eqB_is.1 h))
  · have:=eqB_is.1 h;subst this
    obtain ⟨a,b⟩:=hno _ rfl (eqB_no (by decide)) (eqB_no (by decide))
    exact .inr (.inr ⟨a,b,by decide, .inr ⟨fault_syn.1,by rw [readW,eqB_no (by decide)];rfl⟩⟩)
  · have:=eqB_is.1 h;subst this
    obtain ⟨a,b⟩:=hno _ rfl (eqB_no (by decide)) (eqB_no (by decide))
    exact .inr (.inr ⟨a,b,by decide, .inr ⟨fault_syn.2.1,by rw [readW,eqB_no (by decide)];rfl⟩⟩)
  · have:=eqB_is.1 h;subst this
    obtain ⟨a,b⟩:=hno _ rfl (eqB_no (by decide)) (eqB_no (by decide))
    exact .inr (.inr ⟨a,b,by decide, .inr ⟨fault_syn.2.2.1,by rw [readW,eqB_no (by decide)];rfl⟩⟩)
  · have:=eqB_is.1 h;subst this
    obtain ⟨a,b⟩:=hno _ rfl (eqB_no (by decide)) (eqB_no (by decide))
    exact .inr (.inr ⟨a,b,by decide, .inr ⟨fault_syn.2.2.2,by rw [readW,eqB_no (by decide)];rfl⟩⟩)
 rcases hcase with rfl | rfl | ⟨h1,h2,h3,h4⟩
 · have hr:readW true_=1:=by rw [readW,eqB_is.2 rfl];rfl
   rw [hr]
   clear hv hg hr
   go_enter Tryz.func106,Tryz.ntmps106
   go_wp2_with fail
   refine (worth_true w).mono ?_
   rintro e w1 ⟨rfl,rfl⟩
   go_wp2
   go_ret
   exact ⟨rfl,Below.refl _ _⟩
 · have hr:readW false_=0:=by rw [readW,eqB_no (by decide)];rfl
   rw [hr]
   clear hv hg hr
   go_enter Tryz.func106,Tryz.ntmps106
   go_wp2_with fail
   refine (worth_false w).mono ?_
   rintro e w1 ⟨rfl,rfl⟩
   go_wp2
   go_ret
   exact ⟨rfl,Below.refl _ _⟩
 · have HP:Hid (Calls Tryz.prog 132 #[.string v, .int .i64 10, .int .i64 64] w fun e w'=>(∃ er,e = .returned (.tuple #[.int .i64 (readW v),er]))∧Below w.heap.size w w'):=hid (by
    rcases h4 with h4 | ⟨h4,h5⟩
    · refine (Tryz.strconv_ParseInt_10_at64_ok v (by omega) _ h4 w).mono ?_
      rintro e w' ⟨rfl,hw⟩
      refine ⟨⟨_,rfl⟩,?_⟩
      rcases hw with rfl | ⟨t,rfl⟩
      · exact Below.refl _ _
      · exact Lib.bytesWorld_below _ _ _
    · obtain ⟨ev,he1,he2⟩:=hg
      refine (Tryz.strconv_ParseInt_10_at64_no v (by omega) h4 ev w he1 he2).mono ?_
      rintro e w' ⟨N,rfl,_,_,hb⟩
      exact ⟨⟨_,by rw [h5]⟩,hb⟩)
   have hbd:=readW_ok v
   generalize readW v=z at HP hbd ⊢
   clear hv hg h3 h4
   obtain ⟨hb0,hb1⟩:=hbd
   go_enter Tryz.func106,Tryz.ntmps106
   go_wp2_with fail
   refine HP.out.mono ?_
   rintro e w1 ⟨⟨er,rfl⟩,hb⟩
   have HB:=hid hb
   clear hb
   go_wp2
   go_ret
   exact ⟨rfl,HB.out⟩
theorem writeWorth_any (kd:ByteArray) (n:Int) (h0:0≤n) (h1:n≤999999999) (w:World) (hp:PT w.heap.size w) :
 Calls Tryz.prog 108 #[.string kd, .int .i64 n] w fun e w'=>e = .returned (.string (writeW kd n))∧Below w.heap.size w w':=by
 obtain ⟨a,ha⟩:∃ a,a=eqB kd bool_:=⟨_,rfl⟩
 have hk:(kd.toList == [98,111,111,108])=a:=(eqB_lit kd [98,111,111,108]).symm.trans ha.symm
 have hw:writeW kd n=if a then (if n == 1 then true_ else false_) else ⟨(Lib.itoa n).toArray⟩:=by unfold writeW;rw [←ha]
 rw [hw]
 clear ha hw
 cases a
 · have HP:=hid hp
   obtain ⟨s,hs⟩:∃ s:ByteArray,s=⟨(Lib.itoa n).toArray⟩:=⟨_,rfl⟩
   simp only [Bool.false_eq_true,if_false]
   rw [←hs]
   have HF:=hid (Tryz.strconv_FormatInt_10 n (by omega) (by omega) w (Lib.TabBelow.here hp))
   rw [←hs] at HF
   clear hp hs
   go_enter Tryz.func108,Tryz.ntmps108
   go_wp2_with fail
   refine HF.out.mono ?_
   rintro e w1 ⟨rfl,k,os,rfl⟩
   have HB:=hid (below_growN w k os)
   go_wp2
   go_ret
   exact ⟨rfl,HB.out⟩
 · simp only [if_true]
   clear hp
   cases h:(n == 1) with
   | false =>
    have HF:=hid (Tryz.strconv_FormatBool false w)
    simp only [Bool.false_eq_true,if_false]
    go_enter Tryz.func108,Tryz.ntmps108
    go_wp2_with fail
    refine (worth_true w).mono ?_
    rintro e w1 ⟨rfl,rfl⟩
    go_wp2_with fail
    refine HF.out.mono ?_
    rintro e w2 ⟨rfl,rfl⟩
    go_wp2
    go_ret
    exact ⟨rfl,Below.refl _ _⟩
   | true =>
    have HF:=hid (Tryz.strconv_FormatBool true w)
    simp only [if_true]
    go_enter Tryz.func108,Tryz.ntmps108
    go_wp2_with fail
    refine (worth_true w).mono ?_
    rintro e w1 ⟨rfl,rfl⟩
    go_wp2_with fail
    refine HF.out.mono ?_
    rintro e w2 ⟨rfl,rfl⟩
    go_wp2
    go_ret
    exact ⟨rfl,Below.refl _ _⟩
end Go.Proofs.YthibodlojlkppaaGreatDoor
namespace Go.Proofs.YthibodlojlkppaaGreatDoor
open Go.RowKit
abbrev put3 (w:World) (b:Nat) (v0 v1 v2:Value):World:=((w.setCell ⟨b,0,none⟩ v0).setCell ⟨b,1,none⟩ v1).setCell ⟨b,2,none⟩ v2
theorem RP.other {toks:List Tok} {rb tb cap a nest:Nat} {no:Bool} {w:World} (h:RP toks rb tb cap a nest no w.heap) {b i:Nat} (h1:b≠rb) (h2:b≠tb) (v:Value):RP toks rb tb cap a nest no (w.setCell ⟨b,i,none⟩ v).heap:=by
 obtain ⟨cur,hc,ht⟩:=h.t
 exact ⟨h.ne,(heap_setCell_ne (Ne.symm h1) _).trans h.p,cur,(heap_setCell_ne (Ne.symm h2) _).trans hc,ht⟩
structure DS (toks:List Tok) (rb tb cap:Nat) (w wr:World) (c nest:Nat) (no:Bool):Prop where
 pl:rb < w.heap.size
 tl:tb < w.heap.size
 rp:RP toks rb tb cap c nest no wr.heap
 fr:Fr [rb] w wr
section
variable {toks:List Tok} {rb tb cap c nest:Nat} {no:Bool} {w wr w':World}
theorem DS.refl (h:RP toks rb tb cap c nest no w.heap):DS toks rb tb cap w w c nest no:=by
 have h0:=h.t
 obtain ⟨cur,hc,_⟩:=h0
 exact ⟨heap_lt h.p,heap_lt hc,h,Fr.refl _ _⟩
theorem DS.alloc (h:DS toks rb tb cap w wr c nest no) (o:Obj):DS toks rb tb cap w (wr.alloc o) c nest no :=
 ⟨h.pl,h.tl,h.rp.below ((Below.refl _ _).alloc (Nat.le_refl _) _),h.fr.alloc _⟩
theorem DS.below (h:DS toks rb tb cap w wr c nest no) (hb:Below wr.heap.size wr w'):DS toks rb tb cap w w' c nest no:=⟨h.pl,h.tl,h.rp.below hb,h.fr.trans (Fr.of_below hb)⟩
theorem DS.set (h:DS toks rb tb cap w wr c nest no) {b:Nat} (hb:w.heap.size≤b) (i:Nat) (v:Value):DS toks rb tb cap w (wr.setCell ⟨b,i,none⟩ v) c nest no :=
 ⟨h.pl,h.tl,h.rp.other (by have:=h.pl;omega) (by have:=h.tl;omega) v,h.fr.setCell _ (.inr hb) _⟩
theorem DS.put (h:DS toks rb tb cap w wr c nest no) {b:Nat} (hb:w.heap.size≤b) (v0 v1 v2:Value):DS toks rb tb cap w (put3 wr b v0 v1 v2) c nest no:=((h.set hb 0 v0).set hb 1 v1).set hb 2 v2
theorem DS.drew (h:DS toks rb tb cap w wr c nest no):DS toks rb tb cap w wr.drew c nest no:=⟨h.pl,h.tl,h.rp,h.fr.drew⟩
theorem DS.at (h:DS toks rb tb cap w wr c nest no) (b:Nat):DS toks rb tb cap w (wr.setCell ⟨rb,1,none⟩ (.int .i64 b)) b nest no:=⟨h.pl,h.tl,h.rp.at b,h.fr.setCell _ (.inl (by simp)) _⟩
end
theorem Later.drew {K:Nat→Prop} {a b:World} (h:Later K a b):Later K a b.drew:=⟨h.size,h.block⟩
theorem Later.put3 {K:Nat→Prop} {a b:World} (h:Later K a b) {p:Nat} (hp:¬ K p) (v0 v1 v2:Value):Later K a (put3 b p v0 v1 v2):=((h.set (p:=⟨p,0,none⟩) hp v0).set (p:=⟨p,1,none⟩) hp v1).set (p:=⟨p,2,none⟩) hp v2
def RI (K:Nat→Prop) (w:World) (at_:Int) (word nm ty:ByteArray) (e:Value) (i:It):Prop :=
 at_=i.num∧nm=i.name∧i.name.size≤8∧((i.kind=0∧word=⟨#[117,115,101]⟩∧i.ex = .nilIface) ∨
  (((i.kind=1∧word=⟨#[108,101,116]⟩)∨(i.kind=2∧word=⟨#[112,117,98]⟩))∧ty=i.typ∧(i.typ=⟨#[105,110,116]⟩∨i.typ=⟨#[98,111,111,108]⟩)∧∃ n,n≤401∧Rep K w n e i.ex))
theorem RI.mono {K J:Nat→Prop} {w:World} {at_:Int} {word nm ty:ByteArray} {e:Value} {i:It} (h:RI K w at_ word nm ty e i) (hJ:∀ k,k < w.heap.size→K k→J k):RI J w at_ word nm ty e i:=by
 obtain ⟨h1,h2,h3,h4 | ⟨h4,h5,h6,n,hn,hr⟩⟩:=h
 · exact ⟨h1,h2,h3, .inl h4⟩
 · exact ⟨h1,h2,h3, .inr ⟨h4,h5,h6,n,hn,rep_mono hr hJ⟩⟩
theorem RI.later {K:Nat→Prop} {w w':World} {at_:Int} {word nm ty:ByteArray} {e:Value} {i:It} (h:RI K w at_ word nm ty e i) (hl:Later K w w'):RI K w' at_ word nm ty e i:=by
 obtain ⟨h1,h2,h3,h4 | ⟨h4,h5,h6,n,hn,hr⟩⟩:=h
 · exact ⟨h1,h2,h3, .inl h4⟩
 · exact ⟨h1,h2,h3, .inr ⟨h4,h5,h6,n,hn,rep_later hr hl⟩⟩
def Its (K:Nat→Prop) (w:World):List It→List Value→Prop
 | [],xs=>xs = []
 | i :: is,xs => ∃ (at_:Nat) (word nm ty:ByteArray) (op:Int) (t:ByteArray) (ao:Option Addr) (m c:Nat) (ys:List Value),
  xs = [.int .i64 at_, .string word, .string nm, .string ty, .int .u8 op, .string t, .slice ao m c] ++ ys∧RI K w at_ word nm ty (.agg #[.int .u8 op, .string t, .slice ao m c]) i∧Its K w is ys
theorem Its.mono {K J:Nat→Prop} {w:World} (hJ:∀ k,k < w.heap.size→K k→J k):∀ {l:List It} {xs:List Value},Its K w l xs→Its J w l xs
 | [],_,h=>h
 | _ :: _,_,h=>by
  obtain ⟨at_,word,nm,ty,op,t,ao,m,c,ys,h1,h2,h3⟩:=h
  exact ⟨at_,word,nm,ty,op,t,ao,m,c,ys,h1,h2.mono hJ,Its.mono hJ h3⟩
theorem Its.later {K:Nat→Prop} {w w':World} (hl:Later K w w'):∀ {l:List It} {xs:List Value},Its K w l xs→Its K w' l xs
 | [],_,h=>h
 | _ :: _,_,h=>by
  obtain ⟨at_,word,nm,ty,op,t,ao,m,c,ys,h1,h2,h3⟩:=h
  exact ⟨at_,word,nm,ty,op,t,ao,m,c,ys,h1,h2.later hl,Its.later hl h3⟩
theorem Its.snoc {K:Nat→Prop} {w:World} {i:It} {at_:Nat} {word nm ty:ByteArray} {op:Int} {t:ByteArray} {ao:Option Addr} {m c:Nat} (hi:RI K w at_ word nm ty (.agg #[.int .u8 op, .string t, .slice ao m c]) i) :
 ∀ {l:List It} {xs:List Value},Its K w l xs→Its K w (l ++ [i]) (xs ++ [.int .i64 at_, .string word, .string nm, .string ty, .int .u8 op, .string t, .slice ao m c])
 | [],xs,h=>by
  have:xs = []:=h
  subst this
  exact ⟨at_,word,nm,ty,op,t,ao,m,c,[],rfl,hi,rfl⟩
 | _ :: _,xs,h=>by
  obtain ⟨a2,word2,nm2,ty2,op2,t2,ao2,m2,c2,ys,rfl,h2,h3⟩:=h
  refine ⟨a2,word2,nm2,ty2,op2,t2,ao2,m2,c2,ys ++ _,?_,h2,Its.snoc hi h3⟩
  simp
structure QS (toks:List Tok) (tb cap:Nat) (w wr:World) (a:Nat) (no:Bool) (v:Value) (acc:List It) (xs:List Value):Prop where
 tl:tb < w.heap.size
 lt:w.heap.size < wr.heap.size
 rp:RP toks w.heap.size tb cap a 0 no wr.heap
 bl:Below w.heap.size w wr
 own:wr.ownsRow (w.heap.size+1) 999999999 7 v acc.length xs
 its:Its (fun k=>w.heap.size < k∧v.ownBlock≠some k) wr acc xs
section
variable {toks:List Tok} {tb cap:Nat} {w wr:World} {a:Nat} {no:Bool} {v:Value} {acc:List It} {xs:List Value}
theorem QS.alloc (h:QS toks tb cap w wr a no v acc xs) (o:Obj):QS toks tb cap w (wr.alloc o) a no v acc xs :=
 ⟨h.tl,by have:=h.lt;simp;omega,h.rp.below ((Below.refl _ _).alloc (Nat.le_refl _) _),h.bl.alloc h.bl.size _,h.own.alloc _,Its.later ((Later.refl _ _).alloc _) h.its⟩
theorem QS.put (h:QS toks tb cap w wr a no v acc xs) {w':World} {v':Value} {i:It} {at_:Nat} {word nm ty:ByteArray} {op:Int} {t:ByteArray} {ao:Option Addr} {m c:Nat} (hi:RI (fun k=>w.heap.size < k∧v.ownBlock≠some k) wr at_ word nm ty (.agg #[.int .u8 op, .string t, .slice ao m c]) i)
 (hown:w'.ownsRow (w.heap.size+1) 999999999 7 v' (acc.length+1) (xs ++ [.int .i64 at_, .string word, .string nm, .string ty, .int .u8 op, .string t, .slice ao m c])) (hg:wr.grownBy w' v.ownBlock) (hv:v'.ownBlock=v.ownBlock∨v'.ownBlock=some wr.heap.size) :
 QS toks tb cap w w' a no v' (acc ++ [i]) (xs ++ [.int .i64 at_, .string word, .string nm, .string ty, .int .u8 op, .string t, .slice ao m c]):=by
 have hlt:=fun k hk=>(h.own.lt k hk).1
 have hb:∀ k,k < w.heap.size+1→w'.heap[k]? = wr.heap[k]?:=fun k hk=>hg.block k (by have:=h.lt;omega) fun e=>by have:=hlt k e.symm;omega
 obtain ⟨cur,hc,hcc⟩:=h.rp.t
 have hl:Later (fun k=>w.heap.size < k∧v.ownBlock≠some k) wr w':=⟨hg.size,fun k hk hn=>hg.block k hk fun e=>hn.2 e.symm⟩
 have hnew:=Its.snoc hi h.its
 have hm:Its (fun k=>w.heap.size < k∧v.ownBlock≠some k∧v'.ownBlock≠some k) wr _ _:=Its.mono (fun k hk hn=>⟨hn.1,hn.2,by
  rcases hv with e | e
  · rw [e];exact hn.2
  · rw [e];intro e2;have:=Option.some.inj e2;omega⟩) hnew
 exact ⟨h.tl,Nat.lt_of_lt_of_le h.lt hg.size,⟨h.rp.ne,(hb _ (by omega)).trans h.rp.p,cur,(hb _ (by have:=h.tl;omega)).trans hc,hcc⟩,h.bl.grown hg h.bl.size (fun k hk=>by have:=hlt k hk;omega),by simpa using hown,
  Its.mono (fun k _ hn=>⟨hn.1,hn.2.2⟩) (Its.later (hl.mono fun k hn=>⟨hn.1,hn.2.1⟩) hm)⟩
end
end Go.Proofs.YthibodlojlkppaaGreatDoor
namespace Go.Proofs.YthibodlojlkppaaGreatDoor
open Go.RowKit Go.Sort
def decT (n:Nat):ByteArray:=⟨(Lib.decDigits n).toArray⟩
theorem itoa_nat (n:Nat):(⟨(Lib.itoa (n:Int)).toArray⟩:ByteArray)=decT n:=by
 unfold Lib.itoa decT
 rw [if_neg (by omega)];simp
theorem decDigits_len (n:Nat):(Lib.decDigits n).length≤n+1:=by
 induction n using Nat.strongRecOn with
 | _ n ih =>
  rw [Lib.decDigits]
  split
  · simp
  · have:=ih (n / 10) (by omega)
    simp;omega
theorem decT_size (n:Nat):(decT n).size≤n+1:=by
 have h:(decT n).size=(Lib.decDigits n).length:=bsz1 _
 rw [h];exact decDigits_len n
def itemU (n:ByteArray) (word nm:ByteArray):ByteArray:=((n ++ word) ++ nm) ++ ⟨#[10]⟩
def itemL (n:ByteArray) (word nm ty x:ByteArray):ByteArray:=((((((n ++ word) ++ nm) ++ ⟨#[58]⟩) ++ ty) ++ ⟨#[61]⟩) ++ x) ++ ⟨#[10]⟩
def cat (ss:List ByteArray):ByteArray:=ss.foldl (· ++ ·) ⟨#[]⟩
theorem cat_snoc (ss:List ByteArray) (s:ByteArray):cat (ss ++ [s])=cat ss ++ s:=by simp [cat]
def ITx (i:It) (s:ByteArray):Prop:=i.num≤1000∧s.size≤200000 ∧
 ((i.kind=0∧i.ex = .nilIface∧s=itemU (decT i.num) ⟨#[58,117,115,101,32]⟩ i.name) ∨
  (∃ sx,Writes i.ex sx∧((i.kind=1∧s=itemL (decT i.num) ⟨#[58,108,101,116,32]⟩ i.name i.typ sx)∨(i.kind=2∧s=itemL (decT i.num) ⟨#[58,112,117,98,32]⟩ i.name i.typ sx))))
theorem ITx.ex {i:It} {s:ByteArray} (h:ITx i s):i.ex = .nilIface∨∃ T v,i.ex = .iface T v:=by
 obtain ⟨_,_,⟨_,h,_⟩ | ⟨_,⟨T,v,_,_,h,_⟩,_⟩⟩:=h
 · exact .inl h
 · exact .inr ⟨T,v,h⟩
theorem flat5:∀ (l:List It) (k j:Nat) (i:It),l[k]? = some i→j < 5→(l.flatMap itCells)[k * 5+j]? = (itCells i)[j]?
 | [],k,j,i,h,_=>by simp at h
 | a :: r,0,j,i,h,hj=>by
  simp at h;subst h
  rw [List.flatMap_cons,List.getElem?_append_left (by simp [itCells];omega)];simp
 | a :: r,k+1,j,i,h,hj=>by
  simp at h
  rw [List.flatMap_cons,List.getElem?_append_right (by simp [itCells];omega)]
  have:=flat5 r k j i h hj
  rw [←this]
  congr 1
  simp [itCells];omega
structure WT (items:List It) (ss:List ByteArray) (ao:Option Addr) (c:Nat) (fault:Value) (w wr:World) (k:Nat):Prop where
 bd:IsB w.heap.size (w.heap.size+1) (Lib.strCells (cat (ss.take k))) wr
 bl:Below w.heap.size w wr
 pr:wr.heap[w.heap.size]? = some (.cells #[.slice ao items.length c,fault] 87)
 lt:w.heap.size+1 < wr.heap.size
theorem WT.next {items:List It} {ss:List ByteArray} {ao:Option Addr} {c:Nat} {fault:Value} {w wr w':World} {k:Nat} (h:WT items ss ao c fault w wr k) (hk:k < ss.length) {sk:ByteArray} {o:Obj} (ht:ss.take (k+1)=ss.take k ++ [ss[k]]) (hs:ss[k]=sk)
 (ha:Adds w.heap.size (w.heap.size+1) (Lib.strCells (cat (ss.take k))) sk (wr.alloc o) w'):WT items ss ao c fault w w' (k+1):=by
 have hb:=h.bl.alloc (by have:=h.lt;omega) o
 refine ⟨?_,hb.trans ha.bl,?_,by have:=h.lt;have:=ha.bl.size;simp at this;omega⟩
 · rw [ht,hs,cat_snoc,strCells_append];exact ha.bd
 · exact ha.kt.get (old_heap _ h.pr) (by omega) (by decide)
theorem WT.cell {items:List It} {ss:List ByteArray} {ao:Option Addr} {c g:Nat} {fault:Value} {w wr:World} {k:Nat} (h:WT items ss ao c fault w wr k) {cur:Array Value} (hg:w.heap[g]? = some (.cells cur 137 (0,0))) (hc:cur.toList.take (items.length * 5)=items.flatMap itCells) {i:It} (hi:items[k]? = some i) {j:Nat} {u:Value} (hj:(itCells i)[j]? = some u) :
 wr.cell? ⟨g,k * 5+j,none⟩=some u:=by
 have h1:=below_heap h.bl (heap_lt hg) hg
 have hj5:j < 5:=by
  rcases Nat.lt_or_ge j 5 with h5 | h5
  · exact h5
  · simp [itCells,List.getElem?_eq_none (show [Value.int .i64 i.kind, .int .i64 i.num, .string i.name, .string i.typ,i.ex].length≤j by simpa using h5)] at hj
 have h2:=flat5 items k j i hi hj5
 rw [hj] at h2
 have h3:=take_get hc h2
 rw [heap_cell h1,←Array.getElem?_toList,h3]
end Go.Proofs.YthibodlojlkppaaGreatDoor

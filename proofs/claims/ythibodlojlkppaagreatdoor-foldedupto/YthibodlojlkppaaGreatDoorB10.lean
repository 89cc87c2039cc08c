/-
  The heap of kept slots: up, down. The heap of kept slots: down. The heap of kept slots: Push. The heap of kept slots: Fix, Push. Use of a slot.
-/
import Derived.Test.YthibodlojlkppaaGreatDoorB09
import Derived.Deep.AppendLies
import Derived.Maps.AppendAt
set_option linter.unusedVariables false
set_option linter.unusedSectionVars false
set_option linter.unusedSimpArgs false
set_option maxRecDepth 100000
set_option maxHeartbeats 40000000

namespace Go.Proofs.YthibodlojlkppaaGreatDoor
open Go.RowKit
variable [DecidableEq K] [LawfulBEq Lk]
theorem lenNil (bs:Nat) (w:World):(nilAhead 414 96 (.pointer (some ⟨bs,5, none⟩)) "Len").run Tryz.prog w = .ok (some false) w:=by kernel_rfl
theorem lessNil (bs:Nat) (w:World):(nilAhead 414 96 (.pointer (some ⟨bs,5, none⟩)) "Less").run Tryz.prog w = .ok (some false) w:=by kernel_rfl
theorem pushNil (bs:Nat) (w:World):(nilAhead 414 96 (.pointer (some ⟨bs,5, none⟩)) "Push").run Tryz.prog w = .ok (some false) w:=by kernel_rfl
theorem pushMeth (bs:Nat) (w:World):(method 414 96 (.pointer (some ⟨bs,5, none⟩)) "Push").run Tryz.prog w = .ok (214, .pointer (some ⟨bs,5,none⟩)) w:=by kernel_rfl
theorem underUse:Tryz.prog.underlying 96=some (.pointer 61):=by kernel_rfl
theorem infoLen:(Tryz.prog.info? 96).bind (fun i=>(i.methods.find? (·.name == "Len")).map (fun m=>(m.path,m.func)))=some (#[],some (210,false)):=by kernel_rfl
theorem lenMeth (bs:Nat) (v:Value) (w:World) (h:w.cell? ⟨bs,5,none⟩=some v):(method 414 96 (.pointer (some ⟨bs,5, none⟩)) "Len").run Tryz.prog w = .ok (210,v) w:=by
 obtain ⟨i,hi,hm⟩:=Option.bind_eq_some_iff.1 infoLen
 obtain ⟨m,hm1,hm2⟩:=Option.map_eq_some_iff.1 hm
 simp only [Prod.mk.injEq] at hm2
 obtain ⟨p1,p2⟩:=hm2
 obtain ⟨d,hd⟩:∃ d,(414:Nat)=d+1:=⟨414 - 1,rfl⟩
 rw [hd]
 have hw:∀ (s t:ByteArray) (w:World),(Builtin.ssaWrapNilChk_ #[96] 96 #[.pointer (some ⟨bs,5,none⟩), .string s, .string t]).run Tryz.prog w = .ok (.pointer (some ⟨bs,5,none⟩)) w:=fun s t w=>by kernel_rfl
 simp [method,go_sem,strVal,hw,typeInfo,hi,hm1,p1,p2,follow,receiverAt,Place.get,run_underlying underUse,h,Result.andThen]
theorem infoLess:(Tryz.prog.info? 96).bind (fun i=>(i.methods.find? (·.name == "Less")).map (fun m=>(m.path,m.func)))=some (#[],some (211,false)):=by kernel_rfl
theorem lessMeth (bs:Nat) (v:Value) (w:World) (h:w.cell? ⟨bs,5,none⟩=some v):(method 414 96 (.pointer (some ⟨bs,5, none⟩)) "Less").run Tryz.prog w = .ok (211,v) w:=by
 obtain ⟨i,hi,hm⟩:=Option.bind_eq_some_iff.1 infoLess
 obtain ⟨m,hm1,hm2⟩:=Option.map_eq_some_iff.1 hm
 simp only [Prod.mk.injEq] at hm2
 obtain ⟨p1,p2⟩:=hm2
 obtain ⟨d,hd⟩:∃ d,(414:Nat)=d+1:=⟨414 - 1,rfl⟩
 rw [hd]
 have hw:∀ (s t:ByteArray) (w:World),(Builtin.ssaWrapNilChk_ #[96] 96 #[.pointer (some ⟨bs,5,none⟩), .string s, .string t]).run Tryz.prog w = .ok (.pointer (some ⟨bs,5,none⟩)) w:=fun s t w=>by kernel_rfl
 simp [method,go_sem,strVal,hw,typeInfo,hi,hm1,p1,p2,follow,receiverAt,Place.get,run_underlying underUse,h,Result.andThen]
theorem infoSwap:(Tryz.prog.info? 96).bind (fun i=>(i.methods.find? (·.name == "Swap")).map (fun m=>(m.path,m.func)))=some (#[],some (212,false)):=by kernel_rfl
theorem swapMeth (bs:Nat) (v:Value) (w:World) (h:w.cell? ⟨bs,5,none⟩=some v):(method 414 96 (.pointer (some ⟨bs,5, none⟩)) "Swap").run Tryz.prog w = .ok (212,v) w:=by
 obtain ⟨i,hi,hm⟩:=Option.bind_eq_some_iff.1 infoSwap
 obtain ⟨m,hm1,hm2⟩:=Option.map_eq_some_iff.1 hm
 simp only [Prod.mk.injEq] at hm2
 obtain ⟨p1,p2⟩:=hm2
 obtain ⟨d,hd⟩:∃ d,(414:Nat)=d+1:=⟨414 - 1,rfl⟩
 rw [hd]
 have hw:∀ (s t:ByteArray) (w:World),(Builtin.ssaWrapNilChk_ #[96] 96 #[.pointer (some ⟨bs,5,none⟩), .string s, .string t]).run Tryz.prog w = .ok (.pointer (some ⟨bs,5,none⟩)) w:=fun s t w=>by kernel_rfl
 simp [method,go_sem,strVal,hw,typeInfo,hi,hm1,p1,p2,follow,receiverAt,Place.get,run_underlying underUse,h,Result.andThen]
theorem swapNil (bs:Nat) (w:World):(nilAhead 414 96 (.pointer (some ⟨bs,5, none⟩)) "Swap").run Tryz.prog w = .ok (some false) w:=by kernel_rfl
theorem popNil (bs:Nat) (w:World):(nilAhead 414 96 (.pointer (some ⟨bs,5, none⟩)) "Pop").run Tryz.prog w = .ok (some false) w:=by kernel_rfl
theorem popMeth (bs:Nat) (w:World):(method 414 96 (.pointer (some ⟨bs,5, none⟩)) "Pop").run Tryz.prog w = .ok (213, .pointer (some ⟨bs,5,none⟩)) w:=by kernel_rfl
theorem entLess (args:Array Value) (w:World):(callFunc 211 args).run Tryz.prog w = .ok (.enter 211 args) w:=by kernel_rfl
theorem entSwap (args:Array Value) (w:World):(callFunc 212 args).run Tryz.prog w = .ok (.enter 212 args) w:=by kernel_rfl
theorem entLen (args:Array Value) (w:World):(callFunc 210 args).run Tryz.prog w = .ok (.enter 210 args) w:=by kernel_rfl
theorem entPush (args:Array Value) (w:World):(callFunc 214 args).run Tryz.prog w = .ok (.enter 214 args) w:=by kernel_rfl
theorem entPop (args:Array Value) (w:World):(callFunc 213 args).run Tryz.prog w = .ok (.enter 213 args) w:=by kernel_rfl
theorem len_any (a:Option Addr) (m c:Nat) (w:World):Calls Tryz.prog 210 #[.slice a m c] w fun e w'=>e = .returned (.int .i64 (m:Nat))∧w'=w:=by
 go_enter Tryz.func210,Tryz.ntmps210
 go_wp2
 go_ret
 exact ⟨rfl,rfl⟩
def heapV (bs:Nat):Value := .iface 96 (.pointer (some ⟨bs,5,none⟩))
structure HT (bs kb c:Nat) (L:Lay) (u:K→Nat) (arr:List K) (w:World) (arr':List K) (w':World):Prop where
 hp:HPx bs kb c L u arr' w'
 pf:PF L kb arr w w'
 perm:arr'.Perm arr
theorem HT.refl {bs kb c:Nat} {L:Lay} {u:K→Nat} {arr:List K} {w:World} (h:HPx bs kb c L u arr w):HT bs kb c L u arr w arr w:=⟨h,PF.of_below (Below.refl _ _),List.Perm.refl _⟩
theorem HT.below {bs kb c:Nat} {L:Lay} {u:K→Nat} {arr arr':List K} {w w1 w2:World} (h:HT bs kb c L u arr w arr' w1) (hb:Below w1.heap.size w1 w2):HT bs kb c L u arr w arr' w2 :=
 ⟨h.hp.below hb,h.pf.trans (arr':=arr') (PF.of_below hb) fun k=>h.perm.mem_iff,h.perm⟩
theorem HT.swap {bs kb c:Nat} {L:Lay} {u:K→Nat} {arr arr':List K} {w w1 w2:World} (h:HT bs kb c L u arr w arr' w1) {i j:Nat} (h1:HPx bs kb c L u (swapL arr' i j) w2) (h2:PF L kb arr' w1 w2):HT bs kb c L u arr w (swapL arr' i j) w2 :=
 ⟨h1,h.pf.trans h2 fun k=>h.perm.mem_iff,(swapL_perm _ _ _).trans h.perm⟩
theorem hup {bs kb c:Nat} {L:Lay} {u:K→Nat} {arr:List K} {w:World} (h:HPx bs kb c L u arr w) (j:Nat) (hj:j < arr.length) :
 Calls Tryz.prog 152 #[heapV bs, .int .i64 (j:Nat)] w fun e w'=>e = .returned (.tuple #[])∧HT bs kb c L u arr w (upL u (j+1) arr j) w':=by
 unfold heapV
 have HS:=hid (HT.refl h)
 have HJ:=hid hj
 have m2:=lessNil bs
 have m3:=entLess
 have m5:=swapNil bs
 have m6:=entSwap
 clear h hj
 go_enter Tryz.func152,Tryz.ntmps152
 go_wp2
 go_loopg [1] (j+1) (fun g vj wr => ∃ (t:Nat) (l:List K),g=t+1∧vj = .int .i64 (t:Nat)∧t < l.length∧HT bs kb c L u arr w l wr∧upL u (t+1) l t=upL u (j+1) arr j)
 case atStart=>exact ⟨j,arr,rfl,rfl,HJ.out,HS.out,rfl⟩
 case round =>
  obtain ⟨t,l,rfl,rfl,htl,hht,hup⟩:=hrel
  have hmax:l.length≤1099511627776:=hht.hp.len
  rcases t with _ | t
  · have HH:=hid hht
    have HU:=hid hup
    clear hht hup HS
    go_wp2
    go_end0
    rw [←HU.out]
    exact ⟨rfl,HH.out⟩
  · obtain ⟨p,hp⟩:∃ p,p=t / 2:=⟨_,rfl⟩
    have htt:(t:Int) < 1099511627776:=by omega
    have ht0:(0:Int)≤(t:Int):=by omega
    have hp0:(0:Int)≤(p:Int):=by omega
    have hpt:(p:Int) < 1099511627776:=by omega
    have hdv:(t:Int).tdiv 2=(p:Int):=by rw [Int.tdiv_eq_ediv_of_nonneg ht0];omega
    have hbne:((p:Int) == (t:Int)+1)=false:=by rw [beq_eq_false_iff_ne];omega
    have hpar:par (t+1)=p:=by unfold par;omega
    have HPT:=hid (show p≤t by omega)
    have HPAR:=hid hpar
    have HH:=hid hht
    have HU:=hid hup
    have HL:=hid (hless hht.hp (t+1) p htl (by omega))
    have c5:=hht.hp.v
    have m1:=lessMeth bs _ wr c5
    have HTL:=hid htl
    clear hht hup HS hp hpar htl
    cases hlt:decide (uat u l (t+1) < uat u l p) with
    | false =>
     rw [hlt] at HL
     have HF:=hid hlt
     clear hlt
     go_wp2_with fail
     refine HL.out.mono ?_
     rintro e w1 ⟨rfl,hb⟩
     have HB:=hid hb
     clear hb
     go_wp2
     go_end0
     rw [←HU.out]
     have e1:upL u (t+1+1) l (t+1)=l:=by
      have h1:=HF.out
      have h2:=HPT.out
      simp only [decide_eq_false_iff_not] at h1
      unfold upL
      rw [HPAR.out,if_neg (by omega),if_neg h1]
     rw [e1]
     exact ⟨rfl,HH.out.below HB.out⟩
    | true =>
     rw [hlt] at HL
     have HF:=hid hlt
     clear hlt
     go_wp2_with fail
     refine HL.out.mono ?_
     rintro e w1 ⟨rfl,hb⟩
     have HH1:=hid (HH.out.below hb)
     clear hb
     have c6:=HH1.out.hp.v
     have m4:=swapMeth bs _ w1 c6
     have HW:=hid (hswap HH1.out.hp p (t+1) (by have:=HPT.out;have:=HTL.out;omega) HTL.out)
     clear m1 c5 HL
     go_wp2_with fail
     refine HW.out.mono ?_
     rintro e w2 ⟨rfl,h1,h2⟩
     have HH2:=hid (HH1.out.swap h1 h2)
     clear h1 h2 HW m4 c6
     go_wp2
     go_roundg (p+1)
     all_goals first
      | (have:=HPT.out;omega)
      | (refine ⟨p, swapL l p (t + 1), rfl, by go_num, by rw [swapL_len]; have := HPT.out; have := HTL.out; omega, HH2.out, ?_⟩
         rw [←HU.out]
         have h1:=HF.out
         have h2:=HPT.out
         simp only [decide_eq_true_eq] at h1
         have e1:upL u (t+1+1) l (t+1)=upL u (t+1) (swapL l p (t+1)) p:=by
          rw [upL,HPAR.out,if_neg (by omega),if_pos h1]
         rw [e1]
         exact upL_fuel u _ _ _ _ (by omega) (by omega))
theorem down_stop {u:K→Nat} {l:List K} {n t j:Nat} (h:¬ n≤2 * t+1) (hc:child u l n t=j) (hl:decide (uat u l j < uat u l t)=false):downL u n n l t=(l,t):=by
 cases n with
 | zero=>rfl
 | succ n =>
  rw [downL,if_neg h,hc,if_neg (of_decide_eq_false hl)]
theorem down_go {u:K→Nat} {l:List K} {n t j:Nat} (h:¬ n≤2 * t+1) (hc:child u l n t=j) (hl:decide (uat u l j < uat u l t)=true):downL u n n l t=downL u n n (swapL l t j) j:=by
 have hcl:=(child_lt (used:=u) (l:=l) h).2.1
 rw [hc] at hcl
 obtain ⟨m,rfl⟩:∃ m,n=m+1:=⟨n - 1,by omega⟩
 conv=>lhs;rw [downL,if_neg h,hc,if_pos (of_decide_eq_true hl)]
 exact downL_fuel u _ _ _ _ _ (by omega) (by omega)
theorem hdown {bs kb c:Nat} {L:Lay} {u:K→Nat} {arr:List K} {w:World} (h:HPx bs kb c L u arr w) (i n:Nat) (hn:n≤arr.length) (hi:i≤n) :
 Calls Tryz.prog 78 #[heapV bs, .int .i64 (i:Nat), .int .i64 (n:Nat)] w fun e w'=>e = .returned (.bool (decide (i < (downL u n n arr i).2)))∧HT bs kb c L u arr w (downL u n n arr i).1 w':=by
 unfold heapV
 have HS:=hid (HT.refl h)
 have HJ:=hid hi
 have HN:=hid hn
 have HST:=hid (downL_stay (used:=u) (n:=n) n arr i).1
 have m2:=lessNil bs
 have m3:=entLess
 have m5:=swapNil bs
 have m6:=entSwap
 have hnm:(n:Int)≤1099511627776:=by have:=h.len;unfold BIG at this;omega
 have him:(i:Int)≤1099511627776:=by omega
 have hn0:(0:Int)≤(n:Int):=by omega
 have hi0:(0:Int)≤(i:Int):=by omega
 clear h hi hn
 go_enter Tryz.func78,Tryz.ntmps78
 go_wp2
 go_loopg [7] (n+1 - i) (fun g vi wr => ∃ (t:Nat) (l:List K),g+t=n+1∧vi = .int .i64 (t:Nat)∧t≤n∧l.length=arr.length∧HT bs kb c L u arr w l wr∧downL u n n l t=downL u n n arr i)
 case atStart=>exact ⟨i,arr,by have:=HJ.out;omega,rfl,HJ.out,rfl,HS.out,rfl⟩
 case round =>
  obtain ⟨t,l,hg,rfl,htn,hll,hht,hdn⟩:=hrel
  have ht0:(0:Int)≤(t:Int):=by omega
  have htt:(t:Int)≤1099511627776:=by omega
  obtain ⟨a,ha⟩:∃ a,a=2 * t+1:=⟨_,rfl⟩
  obtain ⟨b,hb⟩:∃ b,b=2 * t+2:=⟨_,rfl⟩
  have e1:2 * (t:Int)+1=(a:Int):=by omega
  have e2:(a:Int)+1=(b:Int):=by omega
  have ha0:(0:Int)≤(a:Int):=by omega
  have ham:(a:Int)≤2199023255553:=by omega
  have HA:=hid ha
  have HB:=hid hb
  have HG:=hid hg
  have HTN:=hid htn
  have HLL:=hid hll
  have HH:=hid hht
  have HD:=hid hdn
  clear ha hb hg htn hll hht hdn HS
  by_cases c1:n≤a
  · have hge:((n:Int)≤(a:Int)):=by omega
    have hdl:downL u n n l t=(l,t):=by
     have h1:=HA.out
     cases n with
     | zero=>rfl
     | succ n=>rw [downL,if_pos (by omega)]
    go_wp2
    go_ret
    have h2:=HD.out
    rw [hdl] at h2
    rw [←h2]
    exact ⟨by simp,HH.out⟩
  · have hlt:((a:Int) < (n:Int)):=by omega
    have hge:¬ ((n:Int)≤(a:Int)):=by omega
    have hna:¬ ((a:Int) < 0):=by omega
    have HLT:=hid (show a < n by omega)
    have HBN:=hid (show b≤n by have:=HA.out;have:=HB.out;omega)
    have hb0:(0:Int)≤(b:Int):=by omega
    have hbm:(b:Int)≤2199023255554:=by omega
    have c5:=HH.out.hp.v
    have m1:=lessMeth bs _ wr c5
    clear c1
    by_cases c2:b < n
    · have hbn:(b:Int) < (n:Int):=by omega
      have HBL:=hid c2
      have HL2:=hid (hless HH.out.hp b a (by have:=HN.out;have:=HLL.out;omega) (by have:=HLT.out;have:=HN.out;have:=HLL.out;omega))
      cases hl2:decide (uat u l b < uat u l a) with
      | true =>
       rw [hl2] at HL2
       have HC:Hid (child u l n t=b):=hid (by
        have h1:=HA.out
        have h2:=HB.out
        subst h1;subst h2
        unfold child
        rw [if_pos ⟨c2,of_decide_eq_true hl2⟩])
       clear hl2 c2
       go_wp2_with fail
       refine HL2.out.mono ?_
       rintro e w1 ⟨rfl,hb1⟩
       have HH1:=hid (HH.out.below hb1)
       clear hb1 m1 c5
       have HJN:=hid (show b < n∧t < b by have h0:=HA.out;have h1:=HB.out;have h2:=HLT.out;have h3:=HBL.out;omega)
       have HL3:=hid (hless HH1.out.hp b t (by have:=HJN.out;have:=HN.out;have:=HLL.out;omega) (by have:=HJN.out;have:=HN.out;have:=HLL.out;omega))
       have c6:=HH1.out.hp.v
       have m7:=lessMeth bs _ _ c6
       cases hl3:decide (uat u l b < uat u l t) with
       | false =>
        rw [hl3] at HL3
        have HF:=hid hl3
        clear hl3
        go_wp2_with fail
        refine HL3.out.mono ?_
        rintro e w3 ⟨rfl,hb3⟩
        have HH2:=hid (HH1.out.below hb3)
        clear hb3
        go_wp2
        go_ret
        have hdl:downL u n n l t=(l,t):=down_stop (by have:=HA.out;have:=HLT.out;omega) HC.out HF.out
        have h2:=HD.out
        rw [hdl] at h2
        rw [←h2]
        exact ⟨by simp,HH2.out⟩
       | true =>
        rw [hl3] at HL3
        have HF:=hid hl3
        clear hl3
        go_wp2_with fail
        refine HL3.out.mono ?_
        rintro e w3 ⟨rfl,hb3⟩
        have HH2:=hid (HH1.out.below hb3)
        clear hb3 m7 c6
        have c7:=HH2.out.hp.v
        have m8:=swapMeth bs _ w3 c7
        have HW:=hid (hswap HH2.out.hp t b (by have:=HJN.out;have:=HN.out;have:=HLL.out;omega) (by have:=HJN.out;have:=HN.out;have:=HLL.out;omega))
        go_wp2_with fail
        refine HW.out.mono ?_
        rintro e w4 ⟨rfl,h1,h2⟩
        have HH3:=hid (HH2.out.swap h1 h2)
        clear h1 h2 HW m8 c7
        go_wp2
        go_roundg (n+1 - b)
        all_goals first
         | (have:=HJN.out;have:=HG.out;omega)
         | (refine ⟨b, swapL l t b, by have := HJN.out; omega, by go_num, by have := HJN.out; omega, by rw [swapL_len]; exact HLL.out, HH3.out, ?_⟩
            rw [←HD.out]
            exact (down_go (by have:=HA.out;have:=HLT.out;omega) HC.out HF.out).symm)
      | false =>
       rw [hl2] at HL2
       have HC:Hid (child u l n t=a):=hid (by
        have h1:=HA.out
        have h2:=HB.out
        subst h1;subst h2
        unfold child
        rw [if_neg (fun h=>of_decide_eq_false hl2 h.2)])
       clear hl2 c2
       go_wp2_with fail
       refine HL2.out.mono ?_
       rintro e w1 ⟨rfl,hb1⟩
       have HH1:=hid (HH.out.below hb1)
       clear hb1 m1 c5
       have HJN:=hid (show a < n∧t < a by have h0:=HA.out;have h1:=HB.out;have h2:=HLT.out;have h3:=HBL.out;omega)
       have HL3:=hid (hless HH1.out.hp a t (by have:=HJN.out;have:=HN.out;have:=HLL.out;omega) (by have:=HJN.out;have:=HN.out;have:=HLL.out;omega))
       have c6:=HH1.out.hp.v
       have m7:=lessMeth bs _ _ c6
       cases hl3:decide (uat u l a < uat u l t) with
       | false =>
        rw [hl3] at HL3
        have HF:=hid hl3
        clear hl3
        go_wp2_with fail
        refine HL3.out.mono ?_
        rintro e w3 ⟨rfl,hb3⟩
        have HH2:=hid (HH1.out.below hb3)
        clear hb3
        go_wp2
        go_ret
        have hdl:downL u n n l t=(l,t):=down_stop (by have:=HA.out;have:=HLT.out;omega) HC.out HF.out
        have h2:=HD.out
        rw [hdl] at h2
        rw [←h2]
        exact ⟨by simp,HH2.out⟩
       | true =>
        rw [hl3] at HL3
        have HF:=hid hl3
        clear hl3
        go_wp2_with fail
        refine HL3.out.mono ?_
        rintro e w3 ⟨rfl,hb3⟩
        have HH2:=hid (HH1.out.below hb3)
        clear hb3 m7 c6
        have c7:=HH2.out.hp.v
        have m8:=swapMeth bs _ w3 c7
        have HW:=hid (hswap HH2.out.hp t a (by have:=HJN.out;have:=HN.out;have:=HLL.out;omega) (by have:=HJN.out;have:=HN.out;have:=HLL.out;omega))
        go_wp2_with fail
        refine HW.out.mono ?_
        rintro e w4 ⟨rfl,h1,h2⟩
        have HH3:=hid (HH2.out.swap h1 h2)
        clear h1 h2 HW m8 c7
        go_wp2
        go_roundg (n+1 - a)
        all_goals first
         | (have:=HJN.out;have:=HG.out;omega)
         | (refine ⟨a, swapL l t a, by have := HJN.out; omega, by go_num, by have := HJN.out; omega, by rw [swapL_len]; exact HLL.out, HH3.out, ?_⟩
            rw [←HD.out]
            exact (down_go (by have:=HA.out;have:=HLT.out;omega) HC.out HF.out).symm)
    · have hbn:¬ (b:Int) < (n:Int):=by omega
      have HBL:=hid HLT.out
      have HC:Hid (child u l n t=a):=hid (by
       have h1:=HA.out
       have h2:=HB.out
       subst h1;subst h2
       unfold child
       rw [if_neg (fun h=>c2 h.1)])
      have HH1:=HH
      clear c2 m1 c5
      have HJN:=hid (show a < n∧t < a by have h0:=HA.out;have h1:=HB.out;have h2:=HLT.out;have h3:=HBL.out;omega)
      have HL3:=hid (hless HH1.out.hp a t (by have:=HJN.out;have:=HN.out;have:=HLL.out;omega) (by have:=HJN.out;have:=HN.out;have:=HLL.out;omega))
      have c6:=HH1.out.hp.v
      have m7:=lessMeth bs _ _ c6
      cases hl3:decide (uat u l a < uat u l t) with
      | false =>
       rw [hl3] at HL3
       have HF:=hid hl3
       clear hl3
       go_wp2_with fail
       refine HL3.out.mono ?_
       rintro e w3 ⟨rfl,hb3⟩
       have HH2:=hid (HH1.out.below hb3)
       clear hb3
       go_wp2
       go_ret
       have hdl:downL u n n l t=(l,t):=down_stop (by have:=HA.out;have:=HLT.out;omega) HC.out HF.out
       have h2:=HD.out
       rw [hdl] at h2
       rw [←h2]
       exact ⟨by simp,HH2.out⟩
      | true =>
       rw [hl3] at HL3
       have HF:=hid hl3
       clear hl3
       go_wp2_with fail
       refine HL3.out.mono ?_
       rintro e w3 ⟨rfl,hb3⟩
       have HH2:=hid (HH1.out.below hb3)
       clear hb3 m7 c6
       have c7:=HH2.out.hp.v
       have m8:=swapMeth bs _ w3 c7
       have HW:=hid (hswap HH2.out.hp t a (by have:=HJN.out;have:=HN.out;have:=HLL.out;omega) (by have:=HJN.out;have:=HN.out;have:=HLL.out;omega))
       go_wp2_with fail
       refine HW.out.mono ?_
       rintro e w4 ⟨rfl,h1,h2⟩
       have HH3:=hid (HH2.out.swap h1 h2)
       clear h1 h2 HW m8 c7
       go_wp2
       go_roundg (n+1 - a)
       all_goals first
        | (have:=HJN.out;have:=HG.out;omega)
        | (refine ⟨a, swapL l t a, by have := HJN.out; omega, by go_num, by have := HJN.out; omega, by rw [swapL_len]; exact HLL.out, HH3.out, ?_⟩
           rw [←HD.out]
           exact (down_go (by have:=HA.out;have:=HLT.out;omega) HC.out HF.out).symm)
theorem own_far {w w':World} {B:Nat} {e:TypeId} {size:Nat} {v:Value} {n:Nat} {xs:List Value} (h:w.ownsRow B e size v n xs) (hk:∀ g,v.ownBlock=some g→w'.heap[g]? = w.heap[g]?):w'.ownsRow B e size v n xs:=by
 obtain ⟨hl,h | ⟨g,cap,cur,hv,hb,hg,h1,h2,h3,h4⟩⟩:=h
 · exact ⟨hl, .inl h⟩
 · exact ⟨hl, .inr ⟨g,cap,cur,hv,hb,(hk g (by rw [hv];rfl)).trans hg,h1,h2,h3,h4⟩⟩
theorem infoSlotE:(Tryz.prog.info? 94).map (fun i=>(i.zero,i.size,i.bytes))=some (some .nilIface,1,16):=by kernel_rfl
structure Pushed (w w':World) (bs B p m:Nat) (c0 c1 c2 c3 c4 c6 v:Value) (xs:List Value) (x:Value):Prop where
 sess:∃ v',w'.heap[bs]? = some (.cells #[c0,c1,c2,c3,c4,v',c6] 66)∧w'.ownsRow B 94 1 v' (m+1) (xs ++ [x])∧(∀ q,v'.ownBlock=some q→v.ownBlock=some q∨w.heap.size≤q)
 slot:w'.heap[p]? = (w.setCell ⟨p,10,none⟩ (.int .i64 (m:Nat))).heap[p]?
 size:w.heap.size≤w'.heap.size
 far:∀ q,q < w.heap.size→q≠bs→q≠p→v.ownBlock≠some q→w'.heap[q]? = w.heap[q]?
 env:w'.os=w.os∧w'.tape=w.tape∧w'.output=w.output
theorem push_any {w:World} {bs B m:Nat} {c0 c1 c2 c3 c4 c6:Value} {ao:Option Addr} {cp:Nat} {xs:List Value} (T:TypeId) (F:FuncId) (hM:MT T F) (p:Nat) (pl:Int) (h:w.heap[bs]? = some (.cells #[c0,c1,c2,c3,c4, .slice ao m cp,c6] 66)) (hown:w.ownsRow B 94 1 (.slice ao m cp) m xs) (hm:m < 1099511627776) (hB:B≤w.heap.size) (hbg:(Value.slice ao m cp).ownBlock≠some bs) (hp:w.cell? ⟨p,10,none⟩=some (.int .i64 pl)) (hpf:w.frozen? ⟨p,10,none⟩=false) (hne:p≠bs) (hpg:(Value.slice ao m cp).ownBlock≠some p) (hpl:p < w.heap.size) :
 Calls Tryz.prog 214 #[.pointer (some ⟨bs,5,none⟩), .iface T (.pointer (some ⟨p,0,none⟩))] w fun e w'=>e = .returned (.tuple #[])∧Pushed w w' bs B p m c0 c1 c2 c3 c4 c6 (.slice ao m cp) xs (.iface T (.pointer (some ⟨p,0,none⟩))):=by
 have s5:w.cell? ⟨bs,5,none⟩=some (.slice ao m cp):=heap_cell (i:=5) h
 have f5:w.frozen? ⟨bs,5,none⟩=false:=heap_frozen h
 have m1:=hM.common
 have m0:=hM.isSlot
 have m2:=hM.ncommon
 obtain ⟨i0,hi0,hz0,hz1,hz2⟩:=info_parts infoSlotE
 have hW:∀ o,((w.setCell ⟨p,10,none⟩ (.int .i64 (m:Nat))).alloc o).drew.ownsRow B 94 1 (.slice ao m cp) m xs:=fun o=>by
  refine own_far hown fun g hg => ?_
  have hl:=(hown.lt g hg).2
  have h1:g≠p:=fun e=>hpg (by rw [←e];exact hg)
  exact (Below.heap_alloc _ _ _ (by simpa using hl)).trans (heap_setCell_ne h1 _)
 have hS:∀ o,((w.setCell ⟨p,10,none⟩ (.int .i64 (m:Nat))).alloc o).drew.heap[bs]? = some (.cells #[c0,c1,c2,c3,c4, .slice ao m cp,c6] 66):=fun o =>
  (Below.heap_alloc _ _ _ (by have:=heap_lt h;simpa using this)).trans ((heap_setCell_ne hne.symm _).trans h)
 have HW:=hid hW
 have HS:=hid hS
 have HN:=hid hne
 have HG:=hid hpg
 have HPL:=hid hpl
 have HOWN:=hid hown
 have HH:=hid h
 have HBG:=hid hbg
 clear h hown hpg hW hS hbg
 go_enter Tryz.func214,Tryz.ntmps214
 go_wp2_with fail
 go_region_with (go_at_call 219;go_must (refine (common_any p _).mono ?_;rintro e w1 ⟨rfl,rfl⟩))
 all_goals go_wp2_with (at_builtin;refine wpList_append_own_at _ rfl _ _ 61 rfl B 94 i0 .nilIface 1 16 Tryz.underlying61 hi0 hz0 hz1 hz2 rfl (by decide) (.slice ao m cp) m xs (by rfl) (HW.out _) ⟨w.heap.size,0,none⟩ 1 1 [.iface T (.pointer (some ⟨p,0,none⟩))] rfl rfl ?c1 ?c2 ?c3 ?c4 ?c5 ?_)
 all_goals first
  | (intro j u hj
     match j,hj with
     | 0,hj=>simp at hj;subst hj;exact World.cell?_alloc_at _ _ _ _ (by simp)
     | (n+1),hj=>simp at hj)
  | (intro u hu;simp at hu;subst hu;rfl)
  | (unfold maxLen;omega)
  | omega
  | (simp;omega)
  | skip
 all_goals
  intro v' w5 hown' hgrow hnil hloc
  have hbl:bs < w.heap.size:=heap_lt HH.out
  have h5:=(hgrow.block bs (by simp;omega) (fun e=>HBG.out e.symm)).trans (HS.out _)
  have g5:w5.cell? ⟨bs,5,none⟩=some (.slice ao m cp):=heap_cell (i:=5) h5
  have k5:w5.frozen? ⟨bs,5,none⟩=false:=heap_frozen h5
  have hsh:∃ a n c,v' = .slice a n c:=by
   obtain ⟨_,⟨h,_⟩ | ⟨g,c,_,h,_⟩⟩:=hown'
   · exact ⟨none,0,0,h⟩
   · exact ⟨_,_,_,h⟩
  obtain ⟨a',n',c',rfl⟩:=hsh
  have hvb:∀ q,(Value.slice a' n' c').ownBlock=some q→(Value.slice ao m cp).ownBlock=some q∨w.heap.size≤q:=fun q hq=>by
   rcases hloc with h1 | h1
   · exact .inl (h1.symm.trans hq)
   · refine .inr ?_
     have h3:=Option.some.inj (h1.symm.trans hq)
     rw [←h3]
     omega
  have HR:Hid (Pushed w (w5.setCell ⟨bs,5,none⟩ (.slice a' n' c')) bs B p m c0 c1 c2 c3 c4 c6 (.slice ao m cp) xs (.iface T (.pointer (some ⟨p,0,none⟩)))):=by
   have hz:=hgrow.size
   simp at hz
   refine ⟨⟨_,heap_setCell_lit h5 _,own_far hown' (fun g hg=>heap_setCell_ne (fun e => ?_) _),hvb⟩,?_,by simp;omega,fun q hq q1 q2 q3 => ?_,?_⟩
   · rcases hvb g hg with h1 | h1
     · exact HBG.out (by rw [←e];exact h1)
     · omega
   · refine (heap_setCell_ne HN.out _).trans ((hgrow.block p (by simp;omega) (fun e=>HG.out e.symm)).trans ?_)
     exact Below.heap_alloc _ _ _ (by have:=HPL.out;simpa using this)
   · refine (heap_setCell_ne q1 _).trans ((hgrow.block q (by simp;omega) (fun e=>q3 e.symm)).trans ?_)
     exact (Below.heap_alloc _ _ _ (by simpa using hq)).trans (heap_setCell_ne q2 _)
   · exact ⟨hgrow.os,hgrow.tape,hgrow.output⟩
  clear h5 hown' hgrow hnil hloc hvb
  go_wp2
  go_end0
  exact ⟨rfl,HR.out⟩
theorem HPx.lenI {bs kb c:Nat} {L:Lay} {u:K→Nat} {arr:List K} {w:World} (h:HPx bs kb c L u arr w):(arr.length:Int)≤1099511627776:=by have:=h.len;unfold BIG at this;omega
theorem hfix {bs kb c:Nat} {L:Lay} {u:K→Nat} {arr:List K} {w:World} (h:HPx bs kb c L u arr w) (i:Nat) (hi:i < arr.length) :
 Calls Tryz.prog 138 #[heapV bs, .int .i64 (i:Nat)] w fun e w'=>e = .returned (.tuple #[])∧HT bs kb c L u arr w (fixL u arr i) w':=by
 have HD:=hid (hdown h i arr.length (Nat.le_refl _) (Nat.le_of_lt hi))
 have HLN:=hid (len_any (some ⟨kb,0,none⟩) arr.length c w)
 have m1:=lenMeth bs _ w h.v
 have m2:=lenNil bs w
 have m3:=entLen
 have HI:=hid hi
 have HX:=hid (show fixL u arr i=if i < (downL u arr.length arr.length arr i).2 then (downL u arr.length arr.length arr i).1 else upL u (arr.length+1) (downL u arr.length arr.length arr i).1 i from rfl)
 clear h hi
 unfold heapV at *
 go_enter Tryz.func138,Tryz.ntmps138
 go_wp2_with fail
 refine HLN.out.mono ?_
 rintro e w1 ⟨rfl,rfl⟩
 clear m1 m2 m3 HLN
 go_wp2_with fail
 cases hm:decide (i < (downL u arr.length arr.length arr i).2) with
 | true =>
  rw [hm] at HD
  have HM:=hid hm
  clear hm
  refine HD.out.mono ?_
  rintro e w2 ⟨rfl,hh⟩
  have HH:=hid hh
  clear hh
  go_wp2
  go_end0
  rw [HX.out,if_pos (of_decide_eq_true HM.out)]
  exact ⟨rfl,HH.out⟩
 | false =>
  rw [hm] at HD
  have HM:=hid hm
  clear hm
  refine HD.out.mono ?_
  rintro e w2 ⟨rfl,hh⟩
  have HH:=hid hh
  clear hh
  have HU:=hid (hup HH.out.hp i (by have:=HH.out.perm.length_eq;have:=HI.out;omega))
  unfold heapV at HU
  go_wp2_with fail
  refine HU.out.mono ?_
  rintro e w3 ⟨rfl,hh⟩
  have HH2:=hid hh
  clear hh
  go_wp2
  go_end0
  have hl:=HH.out.perm.length_eq
  rw [HX.out,if_neg (of_decide_eq_false HM.out)]
  have e1:upL u (arr.length+1) (downL u arr.length arr.length arr i).1 i=upL u (i+1) (downL u arr.length arr.length arr i).1 i:=upL_fuel u _ _ _ _ (by have:=HI.out;omega) (by omega)
  rw [e1]
  exact ⟨rfl,HH2.out.hp,HH.out.pf.trans HH2.out.pf fun k=>HH.out.perm.mem_iff,HH2.out.perm.trans HH.out.perm⟩
theorem hpushX {bs:Nat} {L:Lay} {u:K→Nat} {arr:List K} {k:K} {w:World} {P:World→Nat→Nat→Prop}
 (hc:Calls Tryz.prog 214 #[.pointer (some ⟨bs,5,none⟩),slotV L k] w fun e w'=>e = .returned (.tuple #[])∧∃ kb c,P w' kb c) (hp:∀ w1 kb c,P w1 kb c→HPx bs kb c L u (arr ++ [k]) w1) :
 Calls Tryz.prog 137 #[heapV bs,slotV L k] w fun e w'=>e = .returned (.tuple #[])∧∃ w1 kb c,P w1 kb c∧HT bs kb c L u (arr ++ [k]) w1 (upL u (arr.length+1) (arr ++ [k]) arr.length) w':=by
 have HC:=hid hc
 have HP:=hid hp
 have m1:=pushMeth bs
 have m2:=pushNil bs
 have m3:=entPush
 unfold slotV at *
 unfold heapV
 clear hc hp
 go_enter Tryz.func137,Tryz.ntmps137
 go_wp2_with fail
 refine HC.out.mono ?_
 rintro e w1 ⟨rfl,kb,c,hp1⟩
 have hh:=HP.out w1 kb c hp1
 have HQ:=hid hp1
 have HH:=hid hh
 have hll:(arr ++ [k]).length=arr.length+1:=by simp
 have hli:=hh.lenI
 rw [hll] at hli
 have m4:=lenMeth bs _ w1 hh.v
 have m5:=lenNil bs w1
 have m6:=entLen
 have HLN:=hid (len_any (some ⟨kb,0,none⟩) (arr ++ [k]).length c w1)
 have HU:=hid (hup hh arr.length (by rw [hll];omega))
 rw [hll] at m4 HLN
 unfold heapV at HU
 have hl0:(0:Int)≤(arr.length:Int):=by omega
 have hl1:(arr.length:Int)≤1099511627776:=by omega
 clear hh hp1 m1 m2 m3 hll hli
 go_wp2_with fail
 refine HLN.out.mono ?_
 rintro e w2 ⟨rfl,rfl⟩
 go_wp2_with fail
 refine HU.out.mono ?_
 rintro e w3 ⟨rfl,hh⟩
 have HH2:=hid hh
 clear hh
 go_wp2
 go_end0
 exact ⟨rfl,w2,kb,c,HQ.out,HH2.out⟩
theorem mem_idx {arr:List K} {k:K} (h:k∈arr):arr[arr.idxOf k]? = some k:=by
 have hl:=List.idxOf_lt_length_iff.2 h
 rw [List.getElem?_eq_getElem hl,List.getElem_idxOf hl]
theorem plc_mem {arr:List K} {k:K} (h:k∈arr):plc arr k=(arr.idxOf k:Nat):=by simp [plc,h]
theorem plc_get {arr:List K} (hn:arr.Nodup) {i:Nat} {k:K} (h:arr[i]? = some k):plc arr k=(i:Nat):=by
 have hm:=List.mem_of_getElem? h
 rw [plc_mem hm]
 have h2:=mem_idx hm
 obtain ⟨a,b⟩:=List.getElem?_eq_some_iff.1 h
 obtain ⟨c,d⟩:=List.getElem?_eq_some_iff.1 h2
 have:=(List.getElem_inj hn).1 (d.trans b.symm)
 omega
theorem ENGp.hpx {st:St V} {L:Lay} {lp:Option K} {bs:Nat} {fm q sm bg kv:Value} {arr:List K} {w:World} (h:ENGp st L lp bs fm q sm bg kv arr w) (hne:arr ≠ []):∃ kb c,kv = .slice (some ⟨kb,0,none⟩) arr.length c∧HPx bs kb c L (usedOf st) arr w∧∃ cur,w.heap[kb]? = some (.cells cur 94):=by
 have hpos:0 < arr.length:=List.length_pos_iff.2 hne
 obtain ⟨how,hin⟩:=h.kv
 obtain ⟨hl,⟨h1,h0⟩ | ⟨g,cap,cur,h1,h2,h3,h4⟩⟩:=id how
 · omega
 subst h1
 have hsl:∀ k∈arr,∃ m lk vs,st.sl k=some m∧SB w (L.bk k) (TB k) (slotC bs k m (decide (lp=some k)) lk (plc arr k) vs):=fun k hk=>by
  obtain ⟨m,hm⟩:=Option.ne_none_iff_exists'.1 (h.ex k hk)
  obtain ⟨lk,vs,a,_⟩:=(h.cell k m hm).ex
  exact ⟨m,lk,vs,hm,a⟩
 refine ⟨g,cap,rfl,⟨heap_cell (i:=5) h.s,how,fun i k hi => ?_,h.nd,fun j hj k hk e=>h.bk_inj (h.ex j hj) (h.ex k hk) e,fun k hk => ?_,fun e => ?_,by have:=h.perm.length_eq;have:=h.kl;omega⟩,cur,h3⟩
 · have hk:=List.mem_of_getElem? hi
   obtain ⟨m,lk,vs,hm,a⟩:=hsl k hk
   refine ⟨_,_,a,?_,?_⟩
   · rw [plc_get h.nd hi];rfl
   · simp [slotC,usedOf,hm]
 · obtain ⟨m,lk,vs,hm,a⟩:=hsl k hk
   have hT:=TB_ne (k:=k)
   constructor
   · intro e
     rw [SB,e,h3] at a
     injection a with a;injection a with _ a;exact hT.2.2.2 a.symm
   · intro e
     rw [SB,e,h.s] at a
     injection a with a;injection a with _ a;exact hT.1 a.symm
 · rw [e,h.s] at h3
   injection h3 with h3;injection h3 with _ h3;exact absurd h3 (by decide)
theorem ENGp.heaped {st:St V} {L:Lay} {lp:Option K} {bs kb c:Nat} {u:K→Nat} {fm q sm bg:Value} {arr arr':List K} {w w':World} (h:ENGp st L lp bs fm q sm bg (.slice (some ⟨kb,0,none⟩) arr.length c) arr w) (ht:HT bs kb c L u arr w arr' w'):ENGp st L lp bs fm q sm bg (.slice (some ⟨kb,0,none⟩) arr'.length c) arr' w':=by
 have hlen:=ht.perm.length_eq
 obtain ⟨how,hin⟩:=h.kv
 have hkb:L.own kb:=hin kb rfl
 obtain ⟨hl,⟨h1,h0⟩ | ⟨g,cap,cur,h1,h2,h3,h4⟩⟩:=id how
 · simp at h1
 simp only [Value.slice.injEq,Option.some.injEq,Addr.mk.injEq,true_and,and_true] at h1
 obtain ⟨rfl,rfl⟩:=h1
 have hne:=fun k (hk:k∈arr)=>ht.hp.ne k (ht.perm.mem_iff.2 hk)
 have hsl:∀ k,st.sl k≠none→∃ xs,SB w (L.bk k) (TB k) xs:=fun k hk=>by
  obtain ⟨m,hm⟩:=Option.ne_none_iff_exists'.1 hk
  obtain ⟨lk,vs,a,_⟩:=(h.cell k m hm).ex
  exact ⟨_,a⟩
 have hfar:∀ (b:Nat) (o:Obj),w.heap[b]? = some o→b≠kb→(∀ k∈arr,b≠L.bk k)→w'.heap[b]? = some o:=fun b o hb h1 h2=>(ht.pf.far b (heap_lt hb) h1 h2).trans hb
 have hcs:∀ (b:Nat) (cs:Array Value) (T:TypeId),w.heap[b]? = some (.cells cs T)→T≠94→(∀ k,T≠TB k)→w'.heap[b]? = some (.cells cs T):=fun b cs T hb h1 h2=>by
  refine hfar b _ hb (fun e => ?_) fun k hk e => ?_
  · rw [e,h3] at hb;injection hb with hb;injection hb with _ hb;exact h1 hb.symm
  · obtain ⟨xs,hx⟩:=hsl k (h.ex k hk)
    rw [e,hx] at hb;injection hb with hb;injection hb with _ hb;exact h2 k hb.symm
 have hmp:∀ (b:Nat) (es:Array MapEntry) (n:Nat),w.heap[b]? = some (.map es n)→w'.heap[b]? = some (.map es n):=fun b es n hb=>by
  refine hfar b _ hb (fun e => ?_) fun k hk e => ?_
  · rw [e,h3] at hb;injection hb with hb;cases hb
  · obtain ⟨xs,hx⟩:=hsl k (h.ex k hk)
    rw [e,hx] at hb;injection hb with hb;cases hb
 have hout:∀ (b:Nat) (o:Obj),¬ L.own b→w.heap[b]? = some o→w'.heap[b]? = some o:=fun b o hn hb=>by
  refine hfar b _ hb (fun e=>hn (e ▸ hkb)) fun k hk e => ?_
  obtain ⟨m,hm⟩:=Option.ne_none_iff_exists'.1 (h.ex k hk)
  exact hn (e ▸ (h.cell k m hm).own)
 have hS:w'.heap[bs]? = some (.cells #[fm, .int .i64 st.rev,q,sm,bg, .slice (some ⟨kb,0,none⟩) arr'.length c, .int .u64 st.uses] 66):=by
  rw [hlen]
  exact hfar bs _ h.s (Ne.symm ht.hp.kbs) fun k hk e=>(hne k hk).2 e.symm
 refine ⟨hS,h.bo,fun b hb=>Nat.lt_of_lt_of_le (h.olt b hb) ht.pf.size,h.sr.keep hmp,fun f c hf=>⟨(h.srb f c hf).1,hcs _ _ _ (h.srb f c hf).2 (by decide) fun k=>(TB_ne (k:=k)).2.1.symm⟩,h.sri,h.qm,h.sm.keep hmp,h.bg.keep fun b cs hb=>hcs b cs _ hb (by decide) fun k=>(TB_ne (k:=k)).2.2.1.symm,⟨ht.hp.own,fun g hg=>hin g hg⟩,ht.perm.trans h.perm,ht.hp.nd,h.kl,fun k hk=>h.ex k (ht.perm.mem_iff.1 hk),fun j n hj => ?_⟩
 have hc:=h.cell j n hj
 obtain ⟨lk,vs,a,d⟩:=hc.ex
 refine ⟨⟨lk,vs,?_,d.keep hout⟩,hc.own⟩
 by_cases hja:j∈arr
 · have hja':=ht.perm.mem_iff.2 hja
   obtain ⟨x,hx⟩:=ht.pf.slot j hja _ _ a
   have hi:=mem_idx hja'
   obtain ⟨T,xs,s1,s2,_⟩:=ht.hp.pl _ j hi
   have e:=hx.symm.trans s1
   injection e with e
   injection e with e1 e2 _
   injection e1 with e1
   rw [←e1] at s2
   have hx10:x = .int .i64 (arr'.idxOf j:Nat):=by
    have h10:10 < (slotC bs j n (decide (lp=some j)) lk (plc arr j) vs).length:=by simp [slotC]
    rw [List.getElem?_set_self h10] at s2
    exact Option.some.inj s2
   rw [hx10] at hx
   rw [plc_mem hja']
   exact hx
 · have hja':¬ j∈arr':=fun e=>hja (ht.perm.mem_iff.1 e)
   have:plc arr' j=plc arr j:=by simp [plc,hja,hja']
   rw [this]
   refine hfar _ _ a (fun e => ?_) fun k hk e=>hja ?_
   · have:=a;rw [SB,e,h3] at this;injection this with this;injection this with _ this;exact (TB_ne (k:=j)).2.2.2 this.symm
   · have:=h.bk_inj (by rw [hj];simp) (h.ex k hk) e
     rw [this];exact hk
end Go.Proofs.YthibodlojlkppaaGreatDoor

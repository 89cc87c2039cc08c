/-
  Within a work: fetches as the session names them. Maps by text: files, sources, meanings. A source, looked at within a work.
-/
import Derived.Test.YthibodlojlkppaaGreatDoorB16
import Derived.Test.YthibodlojlkppaaGreatDoorB17
import Derived.Test.YthibodlojlkppaaGreatDoorB18
set_option linter.unusedVariables false
set_option linter.unusedSectionVars false
set_option linter.unusedSimpArgs false
set_option maxRecDepth 100000
set_option maxHeartbeats 40000000

namespace Go.Proofs.YthibodlojlkppaaGreatDoor
open Go.RowKit
variable [DecidableEq K] [LawfulBEq Lk]
section
variable {W0:World} {E:Eng V} {B bs lb:Nat} {fm:Value} {st0 st st':St V} {L0 L:Lay} {w0 w:World} {lk lk':List Lk} {nc:Bool}
theorem findW (hE:Eng0 W0 E bs fm) (hW:WS W0 B bs lb fm st0 L0 w0 st L lk w) {f nm b:ByteArray} (hm:fetC E nc ⟨5,f,nm⟩ lk st=some (.ok (.s b,lk'),st')) :
 Calls Tryz.prog 44 #[ptr bs,ptr lb, .string f, .string nm] w fun e w'=>e = .returned (.string b)∧∃ L',Got W0 B bs lb fm st0 L0 w0 st L w st' L' lk' w':=by
 have HG:=hid (fun (W:World) (hb:Below w.heap.size w W)=>gotS hE (hW.below hb) (k:=⟨5,f,nm⟩) (show (5:Nat)≠2 by decide) (show (5:Nat)≠3 by decide) (show (5:Nat)≠4 by decide) hm (z:=5) (fl:=f) (nm:=nm) rfl (F:=74) (G:=89) (lo:=nob) rfl)
 clear hE hW hm
 have hmf:∀ (fn:Fn) (first cap:Array Value) (w:World),(Instr.makeFunc fn first cap).run Tryz.prog w = .ok (.func fn first cap) w:=fun _ _ _ _=>rfl
 go_enter Tryz.func44,Tryz.ntmps44
 go_wp2_with fail
 refine (textRule_any 74 bs w).mono ?_
 rintro e w1 ⟨rfl,hb⟩
 have HB:=hid hb
 clear hb
 go_wp2_with fail
 refine (HG.out w1 HB.out).mono ?_
 rintro e w2 ⟨rfl,hq⟩
 have HQ:=hid hq
 clear hq
 go_wp2
 go_ret
 obtain ⟨L',hg⟩:=HQ.out
 exact ⟨rfl,L',hg.lift HB.out⟩
theorem typeW (hE:Eng0 W0 E bs fm) (hW:WS W0 B bs lb fm st0 L0 w0 st L lk w) {f nm b:ByteArray} (hm:fetC E nc ⟨6,f,nm⟩ lk st=some (.ok (.s b,lk'),st')) :
 Calls Tryz.prog 45 #[ptr bs,ptr lb, .string f, .string nm] w fun e w'=>e = .returned (.string b)∧∃ L',Got W0 B bs lb fm st0 L0 w0 st L w st' L' lk' w':=by
 have HG:=hid (fun (W:World) (hb:Below w.heap.size w W)=>gotS hE (hW.below hb) (k:=⟨6,f,nm⟩) (show (6:Nat)≠2 by decide) (show (6:Nat)≠3 by decide) (show (6:Nat)≠4 by decide) hm (z:=6) (fl:=f) (nm:=nm) rfl (F:=75) (G:=89) (lo:=nob) rfl)
 clear hE hW hm
 have hmf:∀ (fn:Fn) (first cap:Array Value) (w:World),(Instr.makeFunc fn first cap).run Tryz.prog w = .ok (.func fn first cap) w:=fun _ _ _ _=>rfl
 go_enter Tryz.func45,Tryz.ntmps45
 go_wp2_with fail
 refine (textRule_any 75 bs w).mono ?_
 rintro e w1 ⟨rfl,hb⟩
 have HB:=hid hb
 clear hb
 go_wp2_with fail
 refine (HG.out w1 HB.out).mono ?_
 rintro e w2 ⟨rfl,hq⟩
 have HQ:=hid hq
 clear hq
 go_wp2
 go_ret
 obtain ⟨L',hg⟩:=HQ.out
 exact ⟨rfl,L',hg.lift HB.out⟩
theorem reportW (hE:Eng0 W0 E bs fm) (hW:WS W0 B bs lb fm st0 L0 w0 st L lk w) {f b:ByteArray} (hm:fetC E nc ⟨8,f,nob⟩ lk st=some (.ok (.s b,lk'),st')) :
 Calls Tryz.prog 47 #[ptr bs,ptr lb, .string f] w fun e w'=>e = .returned (.string b)∧∃ L',Got W0 B bs lb fm st0 L0 w0 st L w st' L' lk' w':=by
 have HG:=hid (fun (W:World) (hb:Below w.heap.size w W)=>gotS hE (hW.below hb) (k:=⟨8,f,nob⟩) (show (8:Nat)≠2 by decide) (show (8:Nat)≠3 by decide) (show (8:Nat)≠4 by decide) hm (z:=8) (fl:=f) (nm:=nob) rfl (F:=77) (G:=89) (lo:=nob) rfl)
 clear hE hW hm
 have hmf:∀ (fn:Fn) (first cap:Array Value) (w:World),(Instr.makeFunc fn first cap).run Tryz.prog w = .ok (.func fn first cap) w:=fun _ _ _ _=>rfl
 go_enter Tryz.func47,Tryz.ntmps47
 go_wp2_with fail
 refine (textRule_any 77 bs w).mono ?_
 rintro e w1 ⟨rfl,hb⟩
 have HB:=hid hb
 clear hb
 go_wp2_with fail
 refine (HG.out w1 HB.out).mono ?_
 rintro e w2 ⟨rfl,hq⟩
 have HQ:=hid hq
 clear hq
 go_wp2
 go_ret
 obtain ⟨L',hg⟩:=HQ.out
 exact ⟨rfl,L',hg.lift HB.out⟩
theorem gotT (hE:Eng0 W0 E bs fm) (hW:WS W0 B bs lb fm st0 L0 w0 st L lk w) {f:ByteArray} {l:List Tok} (hm:fetC E nc ⟨2,f,nob⟩ lk st=some (.ok (.t l,lk'),st')) :
 Calls Tryz.prog 65 #[ptr lb, .agg #[.int .i64 2, .string f, .string ⟨#[]⟩], .agg #[.func (.func 63) #[.pointer (some ⟨bs,0,none⟩)] #[], .func (.func 64) #[] #[], .slice none 0 0]] w fun e w' => ∃ ao c,e = .returned (.slice ao l.length c)∧∃ L',Got W0 B bs lb fm st0 L0 w0 st L w st' L' lk' w'∧Row L'.own w' 121 (.slice ao l.length c) l.length (tokCells l)∧∃ s:ByteArray,s.size≤400∧l=lexAll s:=by
 refine (fetchT hE.s (k:=⟨2,f,nob⟩) rfl hW.e hW.m hW.k hm (z:=2) (fl:=f) (nm:=nob) rfl (F:=63) (G:=64) rfl).mono ?_
 intro e w' hp
 obtain ⟨L',hN,⟨vs,rfl,hv⟩,hS⟩:=ft_of hW (fetC_fil hE.a.fil hm) hp
 obtain ⟨⟨_,hs⟩,v,rfl,hr⟩:=hv
 obtain ⟨ao,c,rfl,hc,hg⟩:=id hr
 exact ⟨ao,c,rfl,L',⟨hN,hS⟩,hr,hs⟩
theorem gotX (hE:Eng0 W0 E bs fm) (hW:WS W0 B bs lb fm st0 L0 w0 st L lk w) {f:ByteArray} {l:List ByteArray} (hm:fetC E nc ⟨4,f,nob⟩ lk st=some (.ok (.x l,lk'),st')) :
 Calls Tryz.prog 73 #[ptr lb, .agg #[.int .i64 4, .string f, .string ⟨#[]⟩], .agg #[.func (.func 71) #[.pointer (some ⟨bs,0,none⟩)] #[], .func (.func 72) #[] #[], .slice none 0 0]] w fun e w' => ∃ ao c,e = .returned (.slice ao l.length c)∧∃ L',Got W0 B bs lb fm st0 L0 w0 st L w st' L' lk' w'∧Row L'.own w' 9 (.slice ao l.length c) l.length (l.map .string)∧∃ s:ByteArray,s.size≤400∧l=expX (treeX (lexAll s)).1:=by
 refine (fetchX hE.s (k:=⟨4,f,nob⟩) rfl hW.e hW.m hW.k hm (z:=4) (fl:=f) (nm:=nob) rfl (F:=71) (G:=72) rfl).mono ?_
 intro e w' hp
 obtain ⟨L',hN,⟨vs,rfl,hv⟩,hS⟩:=ft_of hW (fetC_fil hE.a.fil hm) hp
 obtain ⟨⟨_,hs⟩,v,rfl,hr⟩:=hv
 obtain ⟨ao,c,rfl,hc,hg⟩:=id hr
 exact ⟨ao,c,rfl,L',⟨hN,hS⟩,hr,hs⟩
def TRow (L:Lay) (w:World) (ao:Option Addr) (c:Nat) (its:List Itx):Prop:=Row L.own w 137 (.slice ao its.length c) its.length ((its.map itOf).flatMap itCells)
theorem gotR (hE:Eng0 W0 E bs fm) (hW:WS W0 B bs lb fm st0 L0 w0 st L lk w) {f:ByteArray} {its:List Itx} {fl:Option Nat} (hm:fetC E nc ⟨3,f,nob⟩ lk st=some (.ok (.r its fl,lk'),st')) :
 Calls Tryz.prog 69 #[ptr lb, .agg #[.int .i64 3, .string f, .string ⟨#[]⟩], .agg #[.func (.func 67) #[.pointer (some ⟨bs,0,none⟩)] #[], .func (.func 68) #[] #[], .slice none 0 0, .int .i64 0]] w fun e w' => ∃ ao c,e = .returned (.agg #[.slice ao its.length c,faultV fl])∧∃ L',Got W0 B bs lb fm st0 L0 w0 st L w st' L' lk' w'∧TRow L' w' ao c its∧∃ s:ByteArray,s.size≤400∧(its,fl)=treeX (lexAll s):=by
 refine (fetchR hE.s (k:=⟨3,f,nob⟩) rfl hW.e hW.m hW.k hm (z:=3) (fl:=f) (nm:=nob) rfl (F:=67) (G:=68) rfl).mono ?_
 intro e w' hp
 obtain ⟨L',hN,⟨vs,rfl,hv⟩,hS⟩:=ft_of hW (fetC_fil hE.a.fil hm) hp
 obtain ⟨⟨_,hs⟩,v,rfl,hr⟩:=hv
 obtain ⟨ao,c,rfl,hc,hg⟩:=id hr
 exact ⟨ao,c,rfl,L',⟨hN,hS⟩,hr,hs⟩
theorem tokensW (hE:Eng0 W0 E bs fm) (hW:WS W0 B bs lb fm st0 L0 w0 st L lk w) {f:ByteArray} {l:List Tok} (hm:fetC E nc ⟨2,f,nob⟩ lk st=some (.ok (.t l,lk'),st')) :
 Calls Tryz.prog 39 #[ptr bs,ptr lb, .string f] w fun e w' => ∃ ao c,e = .returned (.slice ao l.length c)∧∃ L',Got W0 B bs lb fm st0 L0 w0 st L w st' L' lk' w'∧Row L'.own w' 121 (.slice ao l.length c) l.length (tokCells l)∧∃ s:ByteArray,s.size≤400∧l=lexAll s:=by
 have HB:=hid (below_newK w (.cells #[.func (.func 63) #[.pointer (some ⟨bs,0,none⟩)] #[], .func (.func 64) #[] #[], .slice none 0 0] 131))
 have HFF:=hid (gotT hE (hW.below HB.out) hm)
 have hR:=new_heap w (.cells #[.func (.func 63) #[.pointer (some ⟨bs,0,none⟩)] #[], .func (.func 64) #[] #[], .slice none 0 0] 131)
 have r0:=heap_cell (i:=0) hR
 have r1:=heap_cell (i:=1) hR
 have r2:=heap_cell (i:=2) hR
 clear hE hW hm hR
 have hmf:∀ (fn:Fn) (first cap:Array Value) (w:World),(Instr.makeFunc fn first cap).run Tryz.prog w = .ok (.func fn first cap) w:=fun _ _ _ _=>rfl
 go_enter Tryz.func39,Tryz.ntmps39
 go_wp2_with fail
 refine HFF.out.mono ?_
 rintro e w1 ⟨ao,c,rfl,hq⟩
 have HQ:=hid hq
 clear hq
 go_wp2
 go_ret
 obtain ⟨L',hg,hr⟩:=HQ.out
 exact ⟨ao,c,rfl,L',hg.lift HB.out,hr⟩
theorem exportsW (hE:Eng0 W0 E bs fm) (hW:WS W0 B bs lb fm st0 L0 w0 st L lk w) {f:ByteArray} {l:List ByteArray} (hm:fetC E nc ⟨4,f,nob⟩ lk st=some (.ok (.x l,lk'),st')) :
 Calls Tryz.prog 43 #[ptr bs,ptr lb, .string f] w fun e w' => ∃ ao c,e = .returned (.slice ao l.length c)∧∃ L',Got W0 B bs lb fm st0 L0 w0 st L w st' L' lk' w'∧Row L'.own w' 9 (.slice ao l.length c) l.length (l.map .string)∧∃ s:ByteArray,s.size≤400∧l=expX (treeX (lexAll s)).1:=by
 have HB:=hid (below_newK w (.cells #[.func (.func 71) #[.pointer (some ⟨bs,0,none⟩)] #[], .func (.func 72) #[] #[], .slice none 0 0] 147))
 have HFF:=hid (gotX hE (hW.below HB.out) hm)
 have hR:=new_heap w (.cells #[.func (.func 71) #[.pointer (some ⟨bs,0,none⟩)] #[], .func (.func 72) #[] #[], .slice none 0 0] 147)
 have r0:=heap_cell (i:=0) hR
 have r1:=heap_cell (i:=1) hR
 have r2:=heap_cell (i:=2) hR
 clear hE hW hm hR
 have hmf:∀ (fn:Fn) (first cap:Array Value) (w:World),(Instr.makeFunc fn first cap).run Tryz.prog w = .ok (.func fn first cap) w:=fun _ _ _ _=>rfl
 go_enter Tryz.func43,Tryz.ntmps43
 go_wp2_with fail
 refine HFF.out.mono ?_
 rintro e w1 ⟨ao,c,rfl,hq⟩
 have HQ:=hid hq
 clear hq
 go_wp2
 go_ret
 obtain ⟨L',hg,hr⟩:=HQ.out
 exact ⟨ao,c,rfl,L',hg.lift HB.out,hr⟩
theorem Row.boxR {O:Nat→Prop} {w:World} {T:TypeId} {v:Value} {n:Nat} {xs:List Value} (h:Row O w T v n xs) (hT:T≠87) {rb:Nat} {cs:Array Value} (hb:w.heap[rb]? = some (.cells cs 87)) (i:Nat) (u:Value):Row O (w.setCell ⟨rb,i,none⟩ u) T v n xs :=
 h.keepT fun b cs' hbb=>(heap_setCell_ne (fun e=>by
  rw [e,hb] at hbb;injection hbb with hbb;injection hbb with _ hbb;exact hT hbb.symm) _).trans hbb
theorem treeW (hE:Eng0 W0 E bs fm) (hW:WS W0 B bs lb fm st0 L0 w0 st L lk w) (h0:w0.heap.size≤w.heap.size) (h00:W0.heap.size≤w0.heap.size) {f:ByteArray} {its:List Itx} {fl:Option Nat} (hm:fetC E nc ⟨3,f,nob⟩ lk st=some (.ok (.r its fl,lk'),st')) :
 Calls Tryz.prog 41 #[ptr bs,ptr lb, .string f] w fun e w' => ∃ ao c,e = .returned (.agg #[.slice ao its.length c,faultV fl])∧∃ L',Got W0 B bs lb fm st0 L0 w0 st L w st' L' lk' w'∧TRow L' w' ao c its∧∃ s:ByteArray,s.size≤400∧(its,fl)=treeX (lexAll s):=by
 have hfv:∃ z:Int,faultV fl = .int .i64 z:=by cases fl <;> exact ⟨_,rfl⟩
 obtain ⟨z,hz⟩:=hfv
 have hmf:∀ (fn:Fn) (first cap:Array Value) (w:World),(Instr.makeFunc fn first cap).run Tryz.prog w = .ok (.func fn first cap) w:=fun _ _ _ _=>rfl
 have HE:=hid hE
 have HWS:=hid hW
 have HM:=hid hm
 have H0:=hid (And.intro h0 h00)
 clear hE hW hm h0 h00
 go_enter Tryz.func41,Tryz.ntmps41
 go_wp2_with fail
 have hb0:=((Below.refl w.heap.size w).alloc (Nat.le_refl _) (.cells #[.slice none 0 0, .int .i64 0] 87)).alloc (by simp) (.cells #[.func (.func 67) #[.pointer (some ⟨bs,0,none⟩)] #[], .func (.func 68) #[] #[], .slice none 0 0, .int .i64 0] 142)
 have hT:=old_heap (.cells #[.func (.func 67) #[.pointer (some ⟨bs,0,none⟩)] #[], .func (.func 68) #[] #[], .slice none 0 0, .int .i64 0] 142) (new_heap w (.cells #[.slice none 0 0, .int .i64 0] 87))
 generalize (w.alloc (.cells #[.slice none 0 0, .int .i64 0] 87)).alloc (.cells #[.func (.func 67) #[.pointer (some ⟨bs,0,none⟩)] #[], .func (.func 68) #[] #[], .slice none 0 0, .int .i64 0] 142)=W at hb0 hT ⊢
 have HMN:=hid (HWS.out.mine (Nat.le_refl w.heap.size))
 refine (gotR HE.out (HWS.out.below hb0) HM.out).mono ?_
 rintro e w1 ⟨ao,c,rfl,L',hg,hr,hs⟩
 have hT1:=(hg.n.mine hT HMN.out (fun cs e=>by injection e with _ e;exact absurd e (by decide))).1
 have HG:=hid hg
 have HR:=hid hr
 have HS:=hid hs
 have HB:=hid hb0
 have q0:w1.cell? ⟨w.heap.size,0,none⟩=some (.slice none 0 0):=heap_cell (i:=0) hT1
 have q1:w1.cell? ⟨w.heap.size,1,none⟩=some (.int .i64 0):=heap_cell (i:=1) hT1
 have f0:w1.frozen? ⟨w.heap.size,0,none⟩=false:=heap_frozen hT1
 have f1:w1.frozen? ⟨w.heap.size,1,none⟩=false:=heap_frozen hT1
 have hT2:=heap_setCell_lit (i:=0) hT1 (.slice ao its.length c)
 have HR5:=hid (heap_setCell_lit (i:=1) hT2 (.int .i64 z))
 have HF:=hid (show Got W0 B bs lb fm st0 L0 w0 st L w st' L' lk' ((w1.setCell ⟨w.heap.size,0,none⟩ (.slice ao its.length c)).setCell ⟨w.heap.size,1,none⟩ (.int .i64 z)) from ⟨((hg.n.lift hb0).box (Nat.le_refl _) 0 _).box (Nat.le_refl _) 1 _,(hg.s.box hT1 H0.out.1 H0.out.2 0 _).box hT2 H0.out.1 H0.out.2 1 _⟩)
 have HTR:=hid (show TRow L' ((w1.setCell ⟨w.heap.size,0,none⟩ (.slice ao its.length c)).setCell ⟨w.heap.size,1,none⟩ (.int .i64 z)) ao c its from Row.boxR (Row.boxR hr (by decide) hT1 0 _) (by decide) hT2 1 _)
 clear hg hr hs hb0 hT hT1 hT2
 rw [hz]
 go_wp2
 have y0:=heap_cell (i:=0) HR5.out
 have y1:=heap_cell (i:=1) HR5.out
 refine bodyPost_ret (v := .agg #[.slice ao its.length c, .int .i64 z]) (by simp [results,Tryz.results41,go_sem,y0,y1];try rfl) rfl ?_
 exact ⟨ao,c,by rw [hz],L',HF.out,HTR.out,HS.out⟩
theorem valueW (hE:Eng0 W0 E bs fm) (hW:WS W0 B bs lb fm st0 L0 w0 st L lk w) {f nm b:ByteArray} (hm:fetC E nc ⟨7,f,nm⟩ lk st=some (.ok (.s b,lk'),st')) :
 Calls Tryz.prog 46 #[ptr bs,ptr lb, .string f, .string nm] w fun e w'=>e = .returned (.string b)∧∃ L',Got W0 B bs lb fm st0 L0 w0 st L w st' L' lk' w':=by
 have HG:=hid (fun (W:World) (hb:Below w.heap.size w W)=>gotS hE (hW.below hb) (k:=⟨7,f,nm⟩) (show (7:Nat)≠2 by decide) (show (7:Nat)≠3 by decide) (show (7:Nat)≠4 by decide) hm (z:=7) (fl:=f) (nm:=nm) rfl (F:=76) (G:=89) (lo:=cyc_) rfl)
 clear hE hW hm
 have hmf:∀ (fn:Fn) (first cap:Array Value) (w:World),(Instr.makeFunc fn first cap).run Tryz.prog w = .ok (.func fn first cap) w:=fun _ _ _ _=>rfl
 go_enter Tryz.func46,Tryz.ntmps46
 go_wp2_with fail
 refine (textRule_any 76 bs w).mono ?_
 rintro e w1 ⟨rfl,hb⟩
 have HB:=hid hb
 clear hb
 have hR:=new_heap w1 (.cells #[.func (.func 76) #[.pointer (some ⟨bs,0,none⟩)] #[], .func (.func 89) #[] #[], .string cyc_] 114)
 have r0:=heap_cell (i:=0) hR
 have r1:=heap_cell (i:=1) hR
 have r2:=heap_cell (i:=2) hR
 have HB2:=hid (below_seq HB.out (below_newK w1 (.cells #[.func (.func 76) #[.pointer (some ⟨bs,0,none⟩)] #[], .func (.func 89) #[] #[], .string cyc_] 114)))
 clear hR
 go_wp2_with fail
 refine (HG.out _ HB2.out).mono ?_
 rintro e w2 ⟨rfl,hq⟩
 have HQ:=hid hq
 clear hq
 go_wp2
 go_ret
 obtain ⟨L',hg⟩:=HQ.out
 exact ⟨rfl,L',hg.lift HB2.out⟩
theorem valueWc (hE:Eng0 W0 E bs fm) (hW:WS W0 B bs lb fm st0 L0 w0 st L lk w) {f nm:ByteArray} {c:K} (hm:fetC E nc ⟨7,f,nm⟩ lk st=some (.cyc c,st')) (kd:Nat) :
 Calls Tryz.prog 46 #[ptr bs,ptr lb, .string f, .string nm] w fun e w'=>e = .panicked (cycP c)∧WkPost B st0 L0 bs lb fm kd (.cyc c) st' w0 (.panicked (cycP c)) w':=by
 have HG:=hid (fun (W:World) (hb:Below w.heap.size w W)=>gotC hE (hW.below hb) (k:=⟨7,f,nm⟩) (show (7:Nat)≠2 by decide) (show (7:Nat)≠3 by decide) (show (7:Nat)≠4 by decide) hm (z:=7) (fl:=f) (nm:=nm) rfl (F:=76) (G:=89) (lo:=cyc_) rfl kd)
 clear hE hW hm
 have hmf:∀ (fn:Fn) (first cap:Array Value) (w:World),(Instr.makeFunc fn first cap).run Tryz.prog w = .ok (.func fn first cap) w:=fun _ _ _ _=>rfl
 go_enter Tryz.func46,Tryz.ntmps46
 go_wp2_with fail
 refine (textRule_any 76 bs w).mono ?_
 rintro e w1 ⟨rfl,hb⟩
 have HB:=hid hb
 clear hb
 have hR:=new_heap w1 (.cells #[.func (.func 76) #[.pointer (some ⟨bs,0,none⟩)] #[], .func (.func 89) #[] #[], .string cyc_] 114)
 have r0:=heap_cell (i:=0) hR
 have r1:=heap_cell (i:=1) hR
 have r2:=heap_cell (i:=2) hR
 have HB2:=hid (below_seq HB.out (below_newK w1 (.cells #[.func (.func 76) #[.pointer (some ⟨bs,0,none⟩)] #[], .func (.func 89) #[] #[], .string cyc_] 114)))
 clear hR
 have HC:=hid (HG.out _ HB2.out)
 unfold cycP at HC
 go_wp2_with fail
 refine HC.out.mono ?_
 rintro e w2 ⟨rfl,hq⟩
 go_wp2_with fail
 exact ⟨rfl,rfl,hq⟩
end
theorem isKS (f:ByteArray):MapKept.IsKey .string (.string f):=by simp [MapKept.IsKey]
theorem beqS (a b:ByteArray):(a == b)=decide (a=b):=by
 by_cases h:a=b
 · rw [decide_eq_true h];exact (MapKept.bytes_beq a b).2 h
 · rw [decide_eq_false h]
   cases hb:(a == b) with
   | false=>rfl
   | true=>exact absurd ((MapKept.bytes_beq a b).1 hb) h
theorem findS_no (f:ByteArray):∀ (es:List MapEntry) (l:List (ByteArray × Value)) (i:Nat),es.map (fun e=>(e.key,e.val))=l.map (fun p=>(.string p.1,p.2))→f ∉ l.map (·.1)→Instr.findNow .string (.string f) es i=some none
 | [],_,_,_,_=>rfl
 | e :: es,[],i,h,_=>by simp at h
 | e :: es,p :: l,i,h,hn=>by
  simp only [List.map_cons,List.cons.injEq,Prod.mk.injEq] at h
  obtain ⟨⟨h1,_⟩,h3⟩:=h
  simp only [List.map_cons,List.mem_cons,not_or] at hn
  have hb:(f == p.1)=false:=by rw [beqS];exact decide_eq_false hn.1
  simp only [Instr.findNow,h1,Instr.sameNow,hb]
  exact findS_no f es l (i+1) h3 hn.2
theorem findS_yes (f:ByteArray) (v:Value):∀ (es:List MapEntry) (l:List (ByteArray × Value)) (i:Nat),es.map (fun e=>(e.key,e.val))=l.map (fun p=>(.string p.1,p.2))→(l.map (·.1)).Nodup→(f,v)∈l→∃ j,Instr.findNow .string (.string f) es i=some (some (i+j,v))∧es[j]?.map (fun e=>(e.key,e.val))=some (.string f,v)
 | [],l,_,h,_,hm=>by
  cases l with
  | nil=>simp at hm
  | cons p l=>simp at h
 | e :: es,[],i,h,_,_=>by simp at h
 | e :: es,p :: l,i,h,hd,hm=>by
  simp only [List.map_cons,List.cons.injEq,Prod.mk.injEq] at h
  obtain ⟨⟨h1,h2⟩,h3⟩:=h
  simp only [List.map_cons,List.nodup_cons] at hd
  by_cases hf:f=p.1
  · have hv:v=p.2:=by
     rcases List.mem_cons.1 hm with e1 | e1
     · rw [←e1]
     · exact absurd (List.mem_map.2 ⟨_,e1,hf⟩) hd.1
    have hb:(f == p.1)=true:=by rw [beqS];exact decide_eq_true hf
    refine ⟨0,?_,by simp [h1,h2,hf,hv]⟩
    simp only [Instr.findNow,h1,Instr.sameNow,hb,h2,hv,Nat.add_zero]
  · have hm2:(f,v)∈l:=by
     rcases List.mem_cons.1 hm with e1 | e1
     · exact absurd (by rw [←e1]) hf
     · exact e1
    have hb:(f == p.1)=false:=by rw [beqS];exact decide_eq_false hf
    obtain ⟨j,hj,hk⟩:=findS_yes f v es l (i+1) h3 hd.2 hm2
    refine ⟨j+1,?_,by simpa using hk⟩
    simp only [Instr.findNow,h1,Instr.sameNow,hb,hj]
    simp;omega
theorem look_src {src:ByteArray→Option Nat} {L:Lay} {q:Value} {w:World} (h:SrM src L q w) (f:ByteArray):(Instr.lookup 57 q (.string f) true).run Tryz.prog w = .ok (if src f=none then .tuple #[.pointer none, .bool false] else .tuple #[ptr (L.sb f), .bool true]) w:=by
 have hz:(zeroValue 163).run Tryz.prog w = .ok (.pointer none) w:=by kernel_rfl
 rcases h with ⟨h1,h2⟩ | ⟨b,es,n,h1,h2,h3,fs,h4,h5,h6⟩
 · subst h1
   have hf:Instr.findNow .string (.string f) ([]:List MapEntry) 0=some none:=rfl
   rw [if_pos (h2 f)]
   simp [Instr.lookup,run_underlying Tryz.underlying57,MapKept.run_checkKey Tryz.underlying9 (isKS f),MapKept.run_findKey Tryz.underlying9 hf,hz,Result.andThen]
 · subst h1
   have h4':es.toList.map (fun e=>(e.key,e.val))=(fs.map fun g=>(g,ptr (L.sb g))).map (fun p=>(.string p.1,p.2)):=by rw [h4];simp
   have hk:(fs.map fun g=>(g,ptr (L.sb g))).map (·.1)=fs:=by simp [Function.comp_def]
   by_cases hm:f∈fs
   · obtain ⟨j,hj,_⟩:=findS_yes f (ptr (L.sb f)) es.toList _ 0 h4' (by rw [hk];exact h5) (List.mem_map.2 ⟨f,hm,rfl⟩)
     rw [if_neg ((h6 f).1 hm)]
     simp [Instr.lookup,run_underlying Tryz.underlying57,MapKept.run_getObj_map h3,MapKept.run_checkKey Tryz.underlying9 (isKS f),MapKept.run_findKey Tryz.underlying9 hj,Result.andThen]
   · have hf:=findS_no f es.toList _ 0 h4' (by rw [hk];exact hm)
     have hn:src f=none:=Classical.byContradiction fun e=>hm ((h6 f).2 e)
     rw [if_pos hn]
     simp [Instr.lookup,run_underlying Tryz.underlying57,MapKept.run_getObj_map h3,MapKept.run_checkKey Tryz.underlying9 (isKS f),MapKept.run_findKey Tryz.underlying9 hf,hz,Result.andThen]
theorem store_src {w:World} {b n:Nat} {es:Array MapEntry} {fs:List ByteArray} {g:ByteArray→Value} (f:ByteArray) (v:Value) (h:w.heap[b]? = some (.map es n)) (he:es.toList.map (fun e=>(e.key,e.val))=fs.map (fun f=>(.string f,g f))) (hk:f ∉ fs) :
 (Instr.mapUpdate 57 (.map (some b)) (.string f) v).run Tryz.prog w = .ok () (Ses.setO w b (.map (es.push { key := .string f,val:=v,born:=n }) (n+1))):=by
 have he':es.toList.map (fun e=>(e.key,e.val))=(fs.map fun x=>(x,g x)).map (fun p=>(.string p.1,p.2)):=by rw [he];simp
 have hf:=findS_no f es.toList _ 0 he' (by simpa [Function.comp_def] using hk)
 simp [Instr.mapUpdate,run_underlying Tryz.underlying57,MapKept.run_getObj_map h,MapKept.run_checkKey Tryz.underlying9 (isKS f),MapKept.run_findKey Tryz.underlying9 hf,MapKept.run_setObj_map _ h,Result.andThen,Ses.setO]
theorem look_file {W0:World} {F:ByteArray→Option ByteArray} {L:Lay} {fm:Value} {w:World} (h:FM W0 F L fm w) (f:ByteArray):(Instr.lookup 56 fm (.string f) true).run Tryz.prog w = .ok (.tuple #[.agg #[.string ((F f).getD nob)], .bool (F f).isSome]) w:=by
 have hz:(zeroValue 102).run Tryz.prog w = .ok (.agg #[.string nob]) w:=by kernel_rfl
 rcases h.mp with ⟨h1,h2⟩ | ⟨b,es,n,h1,h2,h3,fs,h4,h5,h6⟩
 · subst h1
   have hf:Instr.findNow .string (.string f) ([]:List MapEntry) 0=some none:=rfl
   simp [Instr.lookup,run_underlying Tryz.underlying56,MapKept.run_checkKey Tryz.underlying9 (isKS f),MapKept.run_findKey Tryz.underlying9 hf,hz,Result.andThen,h2 f]
 · subst h1
   have h4':es.toList.map (fun e=>(e.key,e.val))=(fs.map fun p=>(p.1,Value.agg #[.string p.2])).map (fun p=>(.string p.1,p.2)):=by rw [h4];simp
   have hk:(fs.map fun p=>(p.1,Value.agg #[.string p.2])).map (·.1)=fs.map (·.1):=by simp [Function.comp_def]
   cases hF:F f with
   | some x =>
    obtain ⟨j,hj,_⟩:=findS_yes f (.agg #[.string x]) es.toList _ 0 h4' (by rw [hk];exact h5) (List.mem_map.2 ⟨(f,x),(h6 f x).2 hF,rfl⟩)
    simp [Instr.lookup,run_underlying Tryz.underlying56,MapKept.run_getObj_map h3,MapKept.run_checkKey Tryz.underlying9 (isKS f),MapKept.run_findKey Tryz.underlying9 hj,Result.andThen]
   | none =>
    have hm:f ∉ fs.map (·.1):=fun e=>by
     obtain ⟨⟨a,x⟩,e1,rfl⟩:=List.mem_map.1 e
     have:=(h6 a x).1 e1
     simp only at hF
     rw [hF] at this;cases this
    have hf:=findS_no f es.toList _ 0 h4' (by rw [hk];exact hm)
    simp [Instr.lookup,run_underlying Tryz.underlying56,MapKept.run_getObj_map h3,MapKept.run_checkKey Tryz.underlying9 (isKS f),MapKept.run_findKey Tryz.underlying9 hf,hz,Result.andThen]
def MN (l:List (ByteArray × ByteArray × Int)) (b:Nat) (w:World):Prop:=∃ es n,w.heap[b]? = some (.map es n)∧es.toList.map (fun e=>(e.key,e.val))=l.map (fun p=>(.string p.1, .agg #[.string p.2.1, .int .i64 p.2.2]))∧(l.map (·.1)).Nodup
theorem look_mn {l:List (ByteArray × ByteArray × Int)} {b:Nat} {w:World} (h:MN l b w) (f:ByteArray) (t:ByteArray) (z:Int) (hm:(f,t,z)∈l∨(f ∉ l.map (·.1)∧t=nob∧z=0)):(Instr.lookup 195 (.map (some b)) (.string f) false).run Tryz.prog w = .ok (.agg #[.string t, .int .i64 z]) w:=by
 have hz:(zeroValue 199).run Tryz.prog w = .ok (.agg #[.string nob, .int .i64 0]) w:=by kernel_rfl
 obtain ⟨es,n,h3,h4,h5⟩:=h
 have h4':es.toList.map (fun e=>(e.key,e.val))=(l.map fun p=>(p.1,Value.agg #[.string p.2.1, .int .i64 p.2.2])).map (fun p=>(.string p.1,p.2)):=by rw [h4];simp
 have hk:(l.map fun p=>(p.1,Value.agg #[.string p.2.1, .int .i64 p.2.2])).map (·.1)=l.map (·.1):=by simp [Function.comp_def]
 rcases hm with hm | ⟨hm,rfl,rfl⟩
 · obtain ⟨j,hj,_⟩:=findS_yes f (.agg #[.string t, .int .i64 z]) es.toList _ 0 h4' (by rw [hk];exact h5) (List.mem_map.2 ⟨(f,t,z),hm,rfl⟩)
   simp [Instr.lookup,run_underlying Tryz.underlying195,MapKept.run_getObj_map h3,MapKept.run_checkKey Tryz.underlying9 (isKS f),MapKept.run_findKey Tryz.underlying9 hj,Result.andThen]
 · have hf:=findS_no f es.toList _ 0 h4' (by rw [hk];exact hm)
   simp [Instr.lookup,run_underlying Tryz.underlying195,MapKept.run_getObj_map h3,MapKept.run_checkKey Tryz.underlying9 (isKS f),MapKept.run_findKey Tryz.underlying9 hf,hz,Result.andThen]
theorem store_mn {l:List (ByteArray × ByteArray × Int)} {b:Nat} {w:World} (h:MN l b w) (f t:ByteArray) (z:Int) (hf:f ∉ l.map (·.1)) :
 ∃ es n,(Instr.mapUpdate 195 (.map (some b)) (.string f) (.agg #[.string t, .int .i64 z])).run Tryz.prog w = .ok () (Ses.setO w b (.map es n))∧MN (l ++ [(f,t,z)]) b (Ses.setO w b (.map es n)):=by
 obtain ⟨es,n,h3,h4,h5⟩:=h
 have h4':es.toList.map (fun e=>(e.key,e.val))=(l.map fun p=>(p.1,Value.agg #[.string p.2.1, .int .i64 p.2.2])).map (fun p=>(.string p.1,p.2)):=by rw [h4];simp
 have hn:=findS_no f es.toList _ 0 h4' (by simpa [Function.comp_def] using hf)
 refine ⟨es.push { key := .string f,val := .agg #[.string t, .int .i64 z],born:=n },n+1,?_,_,_,Ses.setO_eq _ h3,?_,?_⟩
 · simp [Instr.mapUpdate,run_underlying Tryz.underlying195,MapKept.run_getObj_map h3,MapKept.run_checkKey Tryz.underlying9 (isKS f),MapKept.run_findKey Tryz.underlying9 hn,MapKept.run_setObj_map _ h3,Result.andThen,Ses.setO]
 · simp [h4]
 · rw [List.map_append,List.nodup_append]
   exact ⟨h5,by simp,fun x hx y hy=>by simp at hy;subst hy;intro e;exact hf (e ▸ hx)⟩
def Lay.srcL (L:Lay) (f:ByteArray) (p ms:Nat):Lay:={ L with sb:=fun g=>if g=f then p else L.sb g,own:=fun b=>L.own b∨b=p∨b=ms }
structure SN (w w':World) (bs p ms n:Nat) (es:Array MapEntry) (f fm:Value) (rv:Int) (sm bg kv:Value) (us:Int):Prop where
 s:w'.heap[bs]? = some (.cells #[fm, .int .i64 rv, .map (some ms),sm,bg,kv, .int .u64 us] 66)
 hp:w'.heap[p]? = some (.cells #[.int .i64 0] 162)
 m:w'.heap[ms]? = some (.map (es.push { key:=f,val := .pointer (some ⟨p,0,none⟩),born:=n }) (n+1))
 lp:w.heap.size≤p
 fr:Ses.Fr [bs,ms] w w'
theorem source_new {st:St V} {f:ByteArray} (h:st.src f=none):st.source f = { st with src:=fun g=>if g=f then some 0 else st.src g }:=by simp [St.source,h]
theorem source_old {st:St V} {f:ByteArray} (h:st.src f≠none):st.source f=st:=by
 obtain ⟨m,hm⟩:=Option.ne_none_iff_exists'.1 h
 simp [St.source,hm]
theorem SN.eng {st:St V} {L:Lay} {bs:Nat} {fm q sm bg kv:Value} {arr:List K} {w w':World} (h:ENGx st L none bs fm q sm bg kv arr w) {f:ByteArray} (hf:st.src f=none) {p ms n:Nat} {es:Array MapEntry}
 (hF:SN w w' bs p ms n es (.string f) fm st.rev sm bg kv st.uses) {fs:List ByteArray} (hes:es.toList.map (fun e=>(e.key,e.val))=fs.map (fun g=>(.string g,ptr (L.sb g)))) (hnd:fs.Nodup) (hks:∀ g,g∈fs↔st.src g≠none)
 (hms:w.heap.size≤ms∨L.own ms∧q = .map (some ms)∧w.heap[ms]? = some (.map es n)) :
 ENGx (st.source f) (L.srcL f p ms) none bs fm (.map (some ms)) sm bg kv arr w'∧Next st (st.source f) L (L.srcL f p ms) w w':=by
 rw [source_new hf]
 have hbs:=heap_lt h.s
 have hpl:=hF.lp
 have hfr:FR L.own w w':=⟨hF.fr.os,hF.fr.tape,hF.fr.output,hF.fr.size,fun b hb hn=>hF.fr.block b hb (by
  simp only [List.mem_cons,List.not_mem_nil,or_false,not_or]
  refine ⟨fun e=>hn (e ▸ h.bo),fun e => ?_⟩
  rcases hms with h1 | h1
  · omega
  · exact hn (e ▸ h1.1))⟩
 have hcs:∀ (b:Nat) (cs:Array Value) (T:TypeId),w.heap[b]? = some (.cells cs T)→T≠66→w'.heap[b]? = some (.cells cs T):=fun b cs T hb h1=>by
  rw [hF.fr.block b (heap_lt hb)]
  · exact hb
  · simp only [List.mem_cons,List.not_mem_nil,or_false,not_or]
    refine ⟨fun e => ?_,fun e => ?_⟩
    · rw [e,h.s] at hb;injection hb with hb;injection hb with _ hb;exact h1 hb.symm
    · rcases hms with h2 | h2
      · have:=heap_lt hb;omega
      · rw [e,h2.2.2] at hb;injection hb with hb;cases hb
 have hmp:∀ (b:Nat) (es:Array MapEntry) (n:Nat),b≠ms→w.heap[b]? = some (.map es n)→w'.heap[b]? = some (.map es n):=fun b es n hne hb=>by
  rw [hF.fr.block b (heap_lt hb)]
  · exact hb
  · simp only [List.mem_cons,List.not_mem_nil,or_false,not_or]
    refine ⟨fun e => ?_,hne⟩
    rw [e,h.s] at hb;injection hb with hb;cases hb
 have hsb:∀ g,st.src g≠none→(L.srcL f p ms).sb g=L.sb g:=fun g hg=>by
  have:g≠f:=fun e=>hg (e ▸ hf)
  simp [Lay.srcL,this]
 have hlt:∀ b,(L.srcL f p ms).own b→b < w'.heap.size:=fun b hb=>by
  rcases hb with hb | rfl | rfl
  · exact Nat.lt_of_lt_of_le (h.olt b hb) hF.fr.size
  · exact heap_lt hF.hp
  · exact heap_lt hF.m
 have hext:∀ b,(L.srcL f p ms).own b→L.own b∨w.heap.size≤b:=fun b hb=>by
  rcases hb with hb | rfl | rfl
  · exact .inl hb
  · exact .inr hpl
  · rcases hms with h1 | h1
    · exact .inr h1
    · exact .inl h1.1
 have hsf:(L.srcL f p ms).sb f=p:=by simp [Lay.srcL]
 refine ⟨⟨⟨hF.s, .inl h.bo,hlt,?_,fun g c hg => ?_,fun a b ha hb hab => ?_,fun b hb => ?_,?_,⟨(h.bg.keep fun b cs hb=>hcs b cs _ hb (by decide)).1,fun g hg => .inl (h.bg.2 g hg)⟩,⟨(h.kv.keep fun b cs hb=>hcs b cs _ hb (by decide)).1,fun g hg => .inl (h.kv.2 g hg)⟩,h.perm,h.nd,h.kl,h.ex,fun j m hj => ?_⟩,h.heap⟩,⟨fun j hj=>⟨hj,rfl⟩,fun g hg=>⟨?_,hsb g hg⟩,hext,hfr⟩⟩
 · refine .inr ⟨ms,_,_,rfl, .inr (.inr rfl),hF.m,fs ++ [f],?_,?_,fun g => ?_⟩
   · rw [Array.toList_push,List.map_append,hes,List.map_append]
     congr 1
     · refine List.map_congr_left fun j hj => ?_
       rw [hsb j ((hks j).1 hj)]
     · simp [hsf]
   · rw [List.nodup_append]
     exact ⟨hnd,by simp,fun a ha b hb=>by simp at hb;subst hb;intro e;exact ((hks a).1 ha) (e ▸ hf)⟩
   · rw [List.mem_append,hks]
     by_cases hg:g=f
     · simp [hg]
     · simp [hg]
 · by_cases hgf:g=f
   · subst hgf
     simp at hg
     subst hg
     rw [hsf]
     exact ⟨.inr (.inl rfl),hF.hp⟩
   · have hg':st.src g=some c:=by simpa [hgf] using hg
     rw [hsb g (by rw [hg'];simp)]
     exact ⟨.inl (h.srb g c hg').1,hcs _ _ _ (h.srb g c hg').2 (by decide)⟩
 · by_cases h1:a=f
   · by_cases h2:b=f
     · rw [h1,h2]
     · have hb':st.src b≠none:=by simpa [h2] using hb
       rw [h1,hsf,hsb b hb'] at hab
       obtain ⟨c,hc⟩:=Option.ne_none_iff_exists'.1 hb'
       have:=heap_lt (h.srb b c hc).2
       omega
   · have ha':st.src a≠none:=by simpa [h1] using ha
     by_cases h2:b=f
     · rw [h2,hsf,hsb a ha'] at hab
       obtain ⟨c,hc⟩:=Option.ne_none_iff_exists'.1 ha'
       have:=heap_lt (h.srb a c hc).2
       omega
     · have hb':st.src b≠none:=by simpa [h2] using hb
       rw [hsb a ha',hsb b hb'] at hab
       exact h.sri a b ha' hb' hab
 · cases hb
   intro e
   rcases hms with h5 | h5
   · rcases h.sm with ⟨h1,_⟩ | ⟨b,es',n',h1,h2,h3,h4⟩
     · rw [h1] at e;cases e
     · rw [h1] at e;cases e
       have:=heap_lt h3;omega
   · exact h.qm ms h5.2.1 e
 · rcases h.sm with h1 | ⟨b,es',n',h1,h2,h3,h4⟩
   · exact .inl h1
   · refine .inr ⟨b,es',n',h1, .inl h2,hmp b es' n' (fun e => ?_) h3,h4⟩
     rcases hms with h5 | h5
     · have:=heap_lt h3;omega
     · exact h.qm ms h5.2.1 (e ▸ h1)
 · have hc:=h.cell j m hj
   obtain ⟨x,vs,a,b⟩:=hc.ex
   exact ⟨⟨x,vs,hcs _ _ _ a TB_ne.1,b.next hfr hext⟩, .inl hc.own⟩
 · show (if g=f then some 0 else st.src g)≠none
   have:g≠f:=fun e=>hg (e ▸ hf)
   simpa [this] using hg
structure PreS (w W:World) (bs p ms n:Nat) (es:Array MapEntry) (fm:Value) (rv:Int) (sm bg kv:Value) (us:Int):Prop where
 s:W.heap[bs]? = some (.cells #[fm, .int .i64 rv, .map (some ms),sm,bg,kv, .int .u64 us] 66)
 hp:W.heap[p]? = some (.cells #[.int .i64 0] 162)
 m:W.heap[ms]? = some (.map es n)
 lp:w.heap.size≤p
 fr:Ses.Fr [bs] w W
theorem PreS.below {w W W':World} {bs p ms n:Nat} {es:Array MapEntry} {fm:Value} {rv:Int} {sm bg kv:Value} {us:Int} (h:PreS w W bs p ms n es fm rv sm bg kv us) (hb:Below W.heap.size W W'):PreS w W' bs p ms n es fm rv sm bg kv us :=
 ⟨below_heap hb (heap_lt h.s) h.s,below_heap hb (heap_lt h.hp) h.hp,below_heap hb (heap_lt h.m) h.m,h.lp,h.fr.trans (Ses.Fr.of_below hb)⟩
theorem PreS.store {w W:World} {bs p ms n:Nat} {es:Array MapEntry} {fm:Value} {rv:Int} {sm bg kv:Value} {us:Int} (h:PreS w W bs p ms n es fm rv sm bg kv us) (f:Value) :
 SN w (Ses.setO W ms (.map (es.push { key:=f,val := .pointer (some ⟨p,0,none⟩),born:=n }) (n+1))) bs p ms n es f fm rv sm bg kv us:=by
 have h1:bs≠ms:=fun e=>by
  have:=h.s
  rw [e,h.m] at this;injection this with this;cases this
 have h2:p≠ms:=fun e=>by
  have:=h.hp
  rw [e,h.m] at this;injection this with this;cases this
 exact ⟨(Ses.setO_ne _ _ _ _ h1).trans h.s,(Ses.setO_ne _ _ _ _ h2).trans h.hp,Ses.setO_eq _ h.m,h.lp,(h.fr.mono (T:=[bs,ms]) (fun b hb => .inl (by simp at hb ⊢;exact .inl hb))).setO _ (.inl (by simp)) _⟩
theorem preS_of {w:World} {bs:Nat} {fm:Value} {rv:Int} {sm bg kv:Value} {us:Int} (h:w.heap[bs]? = some (.cells #[fm, .int .i64 rv, .map none,sm,bg,kv, .int .u64 us] 66)) :
 PreS w (((w.setCell ⟨bs,2,none⟩ (.map (some (w.heap.size+1)))).alloc (.cells #[.int .i64 0] 162)).alloc (.map #[] 0)) bs w.heap.size (w.heap.size+1) 0 #[] fm rv sm bg kv us:=by
 have hb:=heap_lt h
 have s0:(w.setCell ⟨bs,2,none⟩ (.map (some (w.heap.size+1)))).heap[bs]? = some (.cells #[fm, .int .i64 rv, .map (some (w.heap.size+1)),sm,bg,kv, .int .u64 us] 66):=heap_setCell_lit (i:=2) h (.map (some (w.heap.size+1)))
 have hz:((w.setCell ⟨bs,2,none⟩ (.map (some (w.heap.size+1)))).alloc (.cells #[.int .i64 0] 162)).heap.size=w.heap.size+1:=by simp
 have hA1:=new_heap (w.setCell ⟨bs,2,none⟩ (.map (some (w.heap.size+1)))) (.cells #[.int .i64 0] 162)
 rw [show (w.setCell ⟨bs,2,none⟩ (.map (some (w.heap.size+1)))).heap.size=w.heap.size by simp] at hA1
 have hA2:=new_heap ((w.setCell ⟨bs,2,none⟩ (.map (some (w.heap.size+1)))).alloc (.cells #[.int .i64 0] 162)) (.map #[] 0)
 rw [hz] at hA2
 exact ⟨old_heap _ (old_heap _ s0),old_heap _ hA1,hA2,Nat.le_refl _,(((Ses.Fr.refl _ _).setCell _ (.inl (by simp)) _).alloc _).alloc _⟩
theorem sourceNil {bs:Nat} {fm:Value} {rv:Int} {sm bg kv:Value} {us:Int} (w:World) (f:ByteArray) (hfl:f.size≤BIG) (h:w.heap[bs]? = some (.cells #[fm, .int .i64 rv, .map none,sm,bg,kv, .int .u64 us] 66)) :
 Calls Tryz.prog 84 #[.pointer (some ⟨bs,1,none⟩), .string f] w fun e w' => ∃ p ms,e = .returned (.pointer (some ⟨p,0,none⟩))∧w.heap.size≤ms∧SN w w' bs p ms 0 #[] (.string f) fm rv sm bg kv us:=by
 have c2:w.cell? ⟨bs,2,none⟩=some (.map none):=heap_cell (i:=2) h
 have hb:=heap_lt h
 have e2:∀ o p,((w.alloc o).alloc p).cell? ⟨bs,2,none⟩=some (.map none):=fun o p=>heap_cell (i:=2) (old_heap p (old_heap o h))
 have d2:∀ o,(w.alloc o).cell? ⟨bs,2,none⟩=some (.map none):=fun o=>heap_cell (i:=2) (old_heap o h)
 have g2:∀ o p,((w.alloc o).alloc p).frozen? ⟨bs,2,none⟩=false:=fun o p=>heap_frozen (old_heap p (old_heap o h))
 have hmn:∀ W:World,(binOp .eql 57 (.map none) (.map none)).run Tryz.prog W = .ok (.bool true) W:=fun W=>run_eql_map_nil W 57 9 163 none Tryz.underlying57
 have hmk:∀ W:World,(Instr.makeMap 57 none).run Tryz.prog W = .ok (.map (some W.heap.size)) (W.alloc (.map #[] 0)):=fun W=>@run_makeMap Tryz.prog 57 W
 have hl:=look_src (src:=fun _=>none) (L:=⟨fun _=>0,fun _=>0,fun _=>False⟩) (q := .map none) (w:=w) (.inl ⟨rfl,fun _=>rfl⟩) f
 rw [if_pos rfl] at hl
 have HP:=hid (preS_of h)
 have HFL:=hid hfl
 clear h hfl
 go_enter Tryz.func84,Tryz.ntmps84
 go_wp2
 generalize ((w.setCell ⟨bs,2,none⟩ (.map (some (w.heap.size+1)))).alloc (.cells #[.int .i64 0] 162)).alloc (.map #[] 0)=W at HP ⊢
 have HP2:=hid HP.out
 have d2:W.cell? ⟨bs,2,none⟩=some (.map (some (w.heap.size+1))):=heap_cell (i:=2) HP2.out.s
 have hst:∀ W:World,W.heap[w.heap.size+1]? = some (.map #[] 0)→(Instr.mapUpdate 57 (.map (some (w.heap.size+1))) (.string f) (.pointer (some ⟨w.heap.size,0,none⟩))).run Tryz.prog W = .ok () (Ses.setO W (w.heap.size+1) (.map (#[].push { key := .string f,val := .pointer (some ⟨w.heap.size,0,none⟩),born:=0 }) (0+1))):=fun W hW=>store_src (fs:=[]) (g:=fun _ => .nilIface) f _ hW rfl (by simp)
 clear HP c2 e2 g2 hmn hmk hl hb
 go_region_with (go_at_call 23;go_must (refine (cloneB _ _ HFL.out).mono ?_;rintro e w' ⟨rfl,hb⟩;have HP3:Hid (PreS w w' bs w.heap.size (w.heap.size+1) 0 #[] fm rv sm bg kv us):=(by first | exact hid (HP2.out.below hb) | exact hid ((HP2.out.below (below_drew _)).below hb));have d2':w'.cell? ⟨bs,2,none⟩=some (.map (some (w.heap.size+1))):=heap_cell (i:=2) HP3.out.s;have q2':=HP3.out.m))
 all_goals go_wp2
 all_goals go_ret
 all_goals exact ⟨_,_,rfl,by omega,HP3.out.store _⟩
theorem preS_old {w:World} {bs ms n:Nat} {es:Array MapEntry} {fm:Value} {rv:Int} {sm bg kv:Value} {us:Int} (h:w.heap[bs]? = some (.cells #[fm, .int .i64 rv, .map (some ms),sm,bg,kv, .int .u64 us] 66)) (hm:w.heap[ms]? = some (.map es n)) :
 PreS w (w.alloc (.cells #[.int .i64 0] 162)) bs w.heap.size ms n es fm rv sm bg kv us :=
 ⟨old_heap _ h,new_heap _ _,old_heap _ hm,Nat.le_refl _,(Ses.Fr.refl _ _).alloc _⟩
theorem sourceNew {bs ms n:Nat} {es:Array MapEntry} {fm:Value} {rv:Int} {sm bg kv:Value} {us:Int} (w:World) (f:ByteArray) (hfl:f.size≤BIG) (h:w.heap[bs]? = some (.cells #[fm, .int .i64 rv, .map (some ms),sm,bg,kv, .int .u64 us] 66)) (hm:w.heap[ms]? = some (.map es n))
 (hl:∀ w:World,w.heap[ms]? = some (.map es n)→(Instr.lookup 57 (.map (some ms)) (.string f) true).run Tryz.prog w = .ok (.tuple #[.pointer none, .bool false]) w)
 (hst:∀ (v:Value) (w:World),w.heap[ms]? = some (.map es n)→(Instr.mapUpdate 57 (.map (some ms)) (.string f) v).run Tryz.prog w = .ok () (Ses.setO w ms (.map (es.push { key := .string f,val:=v,born:=n }) (n+1)))) :
 Calls Tryz.prog 84 #[.pointer (some ⟨bs,1,none⟩), .string f] w fun e w' => ∃ p,e = .returned (.pointer (some ⟨p,0,none⟩))∧SN w w' bs p ms n es (.string f) fm rv sm bg kv us:=by
 have c2:w.cell? ⟨bs,2,none⟩=some (.map (some ms)):=heap_cell (i:=2) h
 have d2:∀ o,(w.alloc o).cell? ⟨bs,2,none⟩=some (.map (some ms)):=fun o=>heap_cell (i:=2) (old_heap o h)
 have hmn:∀ W:World,(binOp .eql 57 (.map (some ms)) (.map none)).run Tryz.prog W = .ok (.bool false) W:=fun W=>run_eql_map_nil W 57 9 163 (some ms) Tryz.underlying57
 have hl1:=hl w hm
 have HP:=hid (preS_old h hm)
 have HFL:=hid hfl
 clear h hm hl hfl
 go_enter Tryz.func84,Tryz.ntmps84
 go_wp2
 generalize w.alloc (.cells #[.int .i64 0] 162)=W at HP ⊢
 have HP2:=hid HP.out
 have d2:W.cell? ⟨bs,2,none⟩=some (.map (some ms)):=heap_cell (i:=2) HP2.out.s
 have hst2:=hst (.pointer (some ⟨w.heap.size,0,none⟩))
 clear HP c2 hmn hl1
 go_region_with (go_at_call 23;go_must (refine (cloneB _ _ HFL.out).mono ?_;rintro e w' ⟨rfl,hb⟩;have HP3:Hid (PreS w w' bs w.heap.size ms n es fm rv sm bg kv us):=(by first | exact hid (HP2.out.below hb) | exact hid ((HP2.out.below (below_drew _)).below hb));have d2':w'.cell? ⟨bs,2,none⟩=some (.map (some ms)):=heap_cell (i:=2) HP3.out.s;have q2':=HP3.out.m))
 all_goals go_wp2
 all_goals go_ret
 all_goals exact ⟨_,rfl,HP3.out.store _⟩
theorem sourceOld {bs:Nat} {q:Value} {p:Nat} (w:World) (f:ByteArray) (c2:w.cell? ⟨bs,2,none⟩=some q) (hl:(Instr.lookup 57 q (.string f) true).run Tryz.prog w = .ok (.tuple #[.pointer (some ⟨p,0,none⟩), .bool true]) w) :
 Calls Tryz.prog 84 #[.pointer (some ⟨bs,1,none⟩), .string f] w fun e w'=>e = .returned (.pointer (some ⟨p,0,none⟩))∧w'=w:=by
 go_enter Tryz.func84,Tryz.ntmps84
 go_wp2
 go_ret
 exact ⟨rfl,rfl⟩
theorem sourceG {st:St V} {L:Lay} {bs:Nat} {fm:Value} {w:World} (h:ENG st L none bs fm w) (f:ByteArray) (hfl:f.size≤BIG) :
 Calls Tryz.prog 84 #[.pointer (some ⟨bs,1,none⟩), .string f] w fun e w' => ∃ L',e = .returned (ptr (L'.sb f))∧ENG (st.source f) L' none bs fm w'∧Next st (st.source f) L L' w w':=by
 obtain ⟨q,sm,bg,kv,arr,h⟩:=h
 by_cases hs:st.src f=none
 · rcases id h.sr with ⟨h1,h2⟩ | ⟨b,es,n,h1,h2,h3,fs,h4,h5,h6⟩
   · have hS:=h.s
     rw [h1] at hS
     refine (sourceNil w f hfl hS).mono fun e w' ⟨p,ms,e1,e2,e3⟩ => ?_
     obtain ⟨a,b⟩:=e3.eng h hs (fs:=[]) rfl (by simp) (fun g=>by simp [h2 g]) (.inl e2)
     exact ⟨_,by rw [e1];simp [Lay.srcL],⟨_,_,_,_,_,a⟩,b⟩
   · have hS:=h.s
     subst h1
     have hnk:f ∉ fs:=fun e=>(h6 f).1 e hs
     refine (sourceNew w f hfl hS h3 (fun w hw => ?_) (fun v w hm=>store_src (fs:=fs) (g:=fun g=>ptr (L.sb g)) f v hm h4 hnk)).mono fun e w' ⟨p,e1,e3⟩ => ?_
     · have:=look_src (src:=st.src) (L:=L) (q := .map (some b)) (w:=w) (.inr ⟨b,es,n,rfl,h2,hw,fs,h4,h5,h6⟩) f
       rwa [if_pos hs] at this
     · obtain ⟨a,b⟩:=e3.eng h hs h4 h5 h6 (.inr ⟨h2,rfl,h3⟩)
       exact ⟨_,by rw [e1];simp [Lay.srcL],⟨_,_,_,_,_,a⟩,b⟩
 · have hl:=look_src h.sr f
   rw [if_neg hs] at hl
   refine (sourceOld w f (heap_cell (i:=2) h.s) hl).mono fun e w' ⟨e1,e2⟩=>⟨L,e1,?_,?_⟩
   · subst e2;rw [source_old hs];exact ⟨_,_,_,_,_,h⟩
   · subst e2;rw [source_old hs];exact Next.refl st L w'
end Go.Proofs.YthibodlojlkppaaGreatDoor

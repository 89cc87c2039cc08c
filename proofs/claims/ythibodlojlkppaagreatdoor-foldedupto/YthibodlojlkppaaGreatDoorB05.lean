/-
  The parser: let.
-/
import Derived.Test.YthibodlojlkppaaGreatDoorB04
set_option linter.unusedVariables false
set_option linter.unusedSectionVars false
set_option linter.unusedSimpArgs false
set_option maxRecDepth 100000
set_option maxHeartbeats 40000000

namespace Go.Proofs.YthibodlojlkppaaGreatDoor
open Go.RowKit
def letP (toks:List Tok) (k a:Nat):Nat × Option It :=
 if isT toks a [108,101,116] then
  if nameB (tx toks (a+1)) then
   if isT toks (a+2) [58] then
    if isTy toks (a+3) then
     if isT toks (a+4) [61] then
      match exprP toks (a+5) with
      | (b,none)=>(b,none)
      | (b,some x)=>if isT toks b [59] then (b+1,some ⟨k,a+1,tx toks (a+1),tx toks (a+3),x⟩) else (b,none)
     else (a+4,none)
    else (a+3,none)
   else (a+2,none)
  else (a+1,none)
 else (a,none)
theorem isTy_ne {toks:List Tok} {a:Nat} (h:isTy toks a=true):tx toks a≠⟨#[]⟩:=by
 intro e
 simp [isTy,isT,e] at h
theorem let_0 {toks:List Tok} (hw:Wf toks) (pb tb cap k a n:Nat) (hn:n=a+1) (w:World) (ha:a < toks.length) (hP:PS toks pb tb cap a 0 w.heap)
 (h0:isT toks a [108,101,116]=false) :
 Calls Tryz.prog 145 #[.pointer (some ⟨pb,0,none⟩), .int .i64 k] w (PostI toks pb tb cap (a) none w):=by
 have HT0:Hid (eqB (tx toks a) ⟨#[108,101,116]⟩=false):=hid ((isT_eqB toks a [108,101,116]).symm.trans h0)
 have hz:=RS.start hP #[.int .i64 0, .int .i64 0, .string ⟨#[]⟩, .string ⟨#[]⟩, .nilIface]
 have HZ0:=hid hz
 have HL:=hid hw.le
 have HW:=hid hw
 have HN0:=hid hn
 have ha4:Hid (toks.length≤401):=hid hw.le
 clear hz hP hw hn
 clear h0
 go_enter Tryz.func145,Tryz.ntmps145
 go_wp2_with fail
 refine (take_no toks pb tb cap a 0 _ _ HZ0.out.ps ha HT0.out).mono ?_
 rintro e w1 ⟨rfl,hP1,hF1⟩
 have hz1:=HZ0.out.call hF1 hP1
 clear hP1 hF1
 have r0:w1.cell? ⟨w.heap.size,0,none⟩=some (.int .i64 0):=hz1.cell 0
 have rf0:=hz1.f 0
 have r1:w1.cell? ⟨w.heap.size,1,none⟩=some (.int .i64 0):=hz1.cell 1
 have rf1:=hz1.f 1
 have r2:w1.cell? ⟨w.heap.size,2,none⟩=some (.string ⟨#[]⟩):=hz1.cell 2
 have rf2:=hz1.f 2
 have r3:w1.cell? ⟨w.heap.size,3,none⟩=some (.string ⟨#[]⟩):=hz1.cell 3
 have rf3:=hz1.f 3
 have r4:w1.cell? ⟨w.heap.size,4,none⟩=some .nilIface:=hz1.cell 4
 have rf4:=hz1.f 4
 have hR:RS toks pb tb cap w (((((w1.setCell ⟨w.heap.size,0,none⟩ (.int .i64 0)).setCell ⟨w.heap.size,1,none⟩ (.int .i64 0)).setCell ⟨w.heap.size,2,none⟩ (.string ⟨#[]⟩)).setCell ⟨w.heap.size,3,none⟩ (.string ⟨#[]⟩)).setCell ⟨w.heap.size,4,none⟩ .nilIface) (a) #[.int .i64 0, .int .i64 0, .string ⟨#[]⟩, .string ⟨#[]⟩, .nilIface]:=hz1.put (.int .i64 0) (.int .i64 0) (.string ⟨#[]⟩) (.string ⟨#[]⟩) .nilIface
 have y0:(((((w1.setCell ⟨w.heap.size,0,none⟩ (.int .i64 0)).setCell ⟨w.heap.size,1,none⟩ (.int .i64 0)).setCell ⟨w.heap.size,2,none⟩ (.string ⟨#[]⟩)).setCell ⟨w.heap.size,3,none⟩ (.string ⟨#[]⟩)).setCell ⟨w.heap.size,4,none⟩ .nilIface).cell? ⟨w.heap.size,0,none⟩=some (.int .i64 0):=hR.cell 0
 have y1:(((((w1.setCell ⟨w.heap.size,0,none⟩ (.int .i64 0)).setCell ⟨w.heap.size,1,none⟩ (.int .i64 0)).setCell ⟨w.heap.size,2,none⟩ (.string ⟨#[]⟩)).setCell ⟨w.heap.size,3,none⟩ (.string ⟨#[]⟩)).setCell ⟨w.heap.size,4,none⟩ .nilIface).cell? ⟨w.heap.size,1,none⟩=some (.int .i64 0):=hR.cell 1
 have y2:(((((w1.setCell ⟨w.heap.size,0,none⟩ (.int .i64 0)).setCell ⟨w.heap.size,1,none⟩ (.int .i64 0)).setCell ⟨w.heap.size,2,none⟩ (.string ⟨#[]⟩)).setCell ⟨w.heap.size,3,none⟩ (.string ⟨#[]⟩)).setCell ⟨w.heap.size,4,none⟩ .nilIface).cell? ⟨w.heap.size,2,none⟩=some (.string ⟨#[]⟩):=hR.cell 2
 have y3:(((((w1.setCell ⟨w.heap.size,0,none⟩ (.int .i64 0)).setCell ⟨w.heap.size,1,none⟩ (.int .i64 0)).setCell ⟨w.heap.size,2,none⟩ (.string ⟨#[]⟩)).setCell ⟨w.heap.size,3,none⟩ (.string ⟨#[]⟩)).setCell ⟨w.heap.size,4,none⟩ .nilIface).cell? ⟨w.heap.size,3,none⟩=some (.string ⟨#[]⟩):=hR.cell 3
 have y4:(((((w1.setCell ⟨w.heap.size,0,none⟩ (.int .i64 0)).setCell ⟨w.heap.size,1,none⟩ (.int .i64 0)).setCell ⟨w.heap.size,2,none⟩ (.string ⟨#[]⟩)).setCell ⟨w.heap.size,3,none⟩ (.string ⟨#[]⟩)).setCell ⟨w.heap.size,4,none⟩ .nilIface).cell? ⟨w.heap.size,4,none⟩=some .nilIface:=hR.cell 4
 have HR:=hid hR
 clear hR hz1
 go_wp2
 refine bodyPost_ret (v := .tuple #[.agg #[.int .i64 0, .int .i64 0, .string ⟨#[]⟩, .string ⟨#[]⟩, .nilIface], .bool false]) (by simp [results,Tryz.results145,go_sem,y0,y1,y2,y3,y4];try rfl) rfl ?_
 exact ⟨⟨_,rfl,⟨_,_,_,_,_,rfl, .inl rfl⟩,fun x h=>by cases h⟩,HR.out.ps,ha,HR.out.fr⟩
theorem let_1 {toks:List Tok} (hw:Wf toks) (pb tb cap k a n:Nat) (hn:n=a+1) (w:World) (ha:a < toks.length) (hP:PS toks pb tb cap a 0 w.heap)
 (h0:isT toks a [108,101,116]=true) (h1:nameB (tx toks (a+1))=false) :
 Calls Tryz.prog 145 #[.pointer (some ⟨pb,0,none⟩), .int .i64 k] w (PostI toks pb tb cap (a+1) none w):=by
 have HT0:Hid (eqB (tx toks a) ⟨#[108,101,116]⟩=true):=hid ((isT_eqB toks a [108,101,116]).symm.trans h0)
 have HX1:=hid (hw.next_isT ha h0)
 have HB1:Hid (a+1 < 401):=hid (by have:=hw.le;have:=HX1.out;omega)
 have HS1:Hid ((tx toks (a+1)).size≤maxLen):=hid (by have:=hw.size (a+1);unfold maxLen;omega)
 have HN1:=hid h1
 have hz:=RS.start hP #[.int .i64 0, .int .i64 0, .string ⟨#[]⟩, .string ⟨#[]⟩, .nilIface]
 have HZ0:=hid hz
 have HL:=hid hw.le
 have HW:=hid hw
 have HN0:=hid hn
 have ha4:Hid (toks.length≤401):=hid hw.le
 clear hz hP hw hn
 clear h0 h1
 go_enter Tryz.func145,Tryz.ntmps145
 go_wp2_with fail
 refine (take_yes toks pb tb cap a 0 _ _ HZ0.out.ps ha HL.out HT0.out).mono ?_
 rintro e w1 ⟨rfl,hP1,hF1⟩
 have hz1:=HZ0.out.call hF1 hP1
 have c1:w1.cell? ⟨pb,1,none⟩=some (.int .i64 n):=by rw [HN0.out];exact hz1.ps.c1
 have HC1:Hid (LS toks pb tb cap w w1.heap.size (w1.alloc (.cells #[.int .i64 k, .int .i64 n, .string ⟨#[]⟩, .string ⟨#[]⟩, .nilIface] 137)) (a+1) #[.int .i64 0, .int .i64 0, .string ⟨#[]⟩, .string ⟨#[]⟩, .nilIface] #[.int .i64 k, .int .i64 n, .string ⟨#[]⟩, .string ⟨#[]⟩, .nilIface]):=hid (hz1.item _)
 clear hP1 hF1 hz1
 go_wp2_with fail
 refine (name_no toks pb tb cap (a+1) 0 _ HC1.out.ps HX1.out HS1.out HN1.out).mono ?_
 rintro e w2 ⟨rfl,hP1,hF1⟩
 have hc1:=HC1.out.call hF1 hP1
 have q2:w2.cell? ⟨w1.heap.size,2,none⟩=some (.string ⟨#[]⟩):=hc1.cell 2
 have g2:=hc1.f 2
 have hc2:=hc1.set 2 (.string ⟨#[]⟩)
 clear hP1 hF1 hc1
 have r0:(w2.setCell ⟨w1.heap.size,2,none⟩ (.string ⟨#[]⟩)).cell? ⟨w.heap.size,0,none⟩=some (.int .i64 0):=hc2.toRS.cell 0
 have rf0:=hc2.toRS.f 0
 have r1:(w2.setCell ⟨w1.heap.size,2,none⟩ (.string ⟨#[]⟩)).cell? ⟨w.heap.size,1,none⟩=some (.int .i64 0):=hc2.toRS.cell 1
 have rf1:=hc2.toRS.f 1
 have r2:(w2.setCell ⟨w1.heap.size,2,none⟩ (.string ⟨#[]⟩)).cell? ⟨w.heap.size,2,none⟩=some (.string ⟨#[]⟩):=hc2.toRS.cell 2
 have rf2:=hc2.toRS.f 2
 have r3:(w2.setCell ⟨w1.heap.size,2,none⟩ (.string ⟨#[]⟩)).cell? ⟨w.heap.size,3,none⟩=some (.string ⟨#[]⟩):=hc2.toRS.cell 3
 have rf3:=hc2.toRS.f 3
 have r4:(w2.setCell ⟨w1.heap.size,2,none⟩ (.string ⟨#[]⟩)).cell? ⟨w.heap.size,4,none⟩=some .nilIface:=hc2.toRS.cell 4
 have rf4:=hc2.toRS.f 4
 have hR:RS toks pb tb cap w ((((((w2.setCell ⟨w1.heap.size,2,none⟩ (.string ⟨#[]⟩)).setCell ⟨w.heap.size,0,none⟩ (.int .i64 0)).setCell ⟨w.heap.size,1,none⟩ (.int .i64 0)).setCell ⟨w.heap.size,2,none⟩ (.string ⟨#[]⟩)).setCell ⟨w.heap.size,3,none⟩ (.string ⟨#[]⟩)).setCell ⟨w.heap.size,4,none⟩ .nilIface) (a+1) #[.int .i64 0, .int .i64 0, .string ⟨#[]⟩, .string ⟨#[]⟩, .nilIface]:=hc2.toRS.put (.int .i64 0) (.int .i64 0) (.string ⟨#[]⟩) (.string ⟨#[]⟩) .nilIface
 have y0:((((((w2.setCell ⟨w1.heap.size,2,none⟩ (.string ⟨#[]⟩)).setCell ⟨w.heap.size,0,none⟩ (.int .i64 0)).setCell ⟨w.heap.size,1,none⟩ (.int .i64 0)).setCell ⟨w.heap.size,2,none⟩ (.string ⟨#[]⟩)).setCell ⟨w.heap.size,3,none⟩ (.string ⟨#[]⟩)).setCell ⟨w.heap.size,4,none⟩ .nilIface).cell? ⟨w.heap.size,0,none⟩=some (.int .i64 0):=hR.cell 0
 have y1:((((((w2.setCell ⟨w1.heap.size,2,none⟩ (.string ⟨#[]⟩)).setCell ⟨w.heap.size,0,none⟩ (.int .i64 0)).setCell ⟨w.heap.size,1,none⟩ (.int .i64 0)).setCell ⟨w.heap.size,2,none⟩ (.string ⟨#[]⟩)).setCell ⟨w.heap.size,3,none⟩ (.string ⟨#[]⟩)).setCell ⟨w.heap.size,4,none⟩ .nilIface).cell? ⟨w.heap.size,1,none⟩=some (.int .i64 0):=hR.cell 1
 have y2:((((((w2.setCell ⟨w1.heap.size,2,none⟩ (.string ⟨#[]⟩)).setCell ⟨w.heap.size,0,none⟩ (.int .i64 0)).setCell ⟨w.heap.size,1,none⟩ (.int .i64 0)).setCell ⟨w.heap.size,2,none⟩ (.string ⟨#[]⟩)).setCell ⟨w.heap.size,3,none⟩ (.string ⟨#[]⟩)).setCell ⟨w.heap.size,4,none⟩ .nilIface).cell? ⟨w.heap.size,2,none⟩=some (.string ⟨#[]⟩):=hR.cell 2
 have y3:((((((w2.setCell ⟨w1.heap.size,2,none⟩ (.string ⟨#[]⟩)).setCell ⟨w.heap.size,0,none⟩ (.int .i64 0)).setCell ⟨w.heap.size,1,none⟩ (.int .i64 0)).setCell ⟨w.heap.size,2,none⟩ (.string ⟨#[]⟩)).setCell ⟨w.heap.size,3,none⟩ (.string ⟨#[]⟩)).setCell ⟨w.heap.size,4,none⟩ .nilIface).cell? ⟨w.heap.size,3,none⟩=some (.string ⟨#[]⟩):=hR.cell 3
 have y4:((((((w2.setCell ⟨w1.heap.size,2,none⟩ (.string ⟨#[]⟩)).setCell ⟨w.heap.size,0,none⟩ (.int .i64 0)).setCell ⟨w.heap.size,1,none⟩ (.int .i64 0)).setCell ⟨w.heap.size,2,none⟩ (.string ⟨#[]⟩)).setCell ⟨w.heap.size,3,none⟩ (.string ⟨#[]⟩)).setCell ⟨w.heap.size,4,none⟩ .nilIface).cell? ⟨w.heap.size,4,none⟩=some .nilIface:=hR.cell 4
 have HR:=hid hR
 clear hR hc2
 go_wp2
 refine bodyPost_ret (v := .tuple #[.agg #[.int .i64 0, .int .i64 0, .string ⟨#[]⟩, .string ⟨#[]⟩, .nilIface], .bool false]) (by simp [results,Tryz.results145,go_sem,y0,y1,y2,y3,y4];try rfl) rfl ?_
 exact ⟨⟨_,rfl,⟨_,_,_,_,_,rfl, .inl rfl⟩,fun x h=>by cases h⟩,HR.out.ps,HX1.out,HR.out.fr⟩
theorem let_2 {toks:List Tok} (hw:Wf toks) (pb tb cap k a n:Nat) (hn:n=a+1) (w:World) (ha:a < toks.length) (hP:PS toks pb tb cap a 0 w.heap)
 (h0:isT toks a [108,101,116]=true) (h1:nameB (tx toks (a+1))=true) (h2:isT toks (a+2) [58]=false) :
 Calls Tryz.prog 145 #[.pointer (some ⟨pb,0,none⟩), .int .i64 k] w (PostI toks pb tb cap (a+2) none w):=by
 have HT0:Hid (eqB (tx toks a) ⟨#[108,101,116]⟩=true):=hid ((isT_eqB toks a [108,101,116]).symm.trans h0)
 have HX1:=hid (hw.next_isT ha h0)
 have HB1:Hid (a+1 < 401):=hid (by have:=hw.le;have:=HX1.out;omega)
 have HS1:Hid ((tx toks (a+1)).size≤maxLen):=hid (by have:=hw.size (a+1);unfold maxLen;omega)
 have HN1:=hid h1
 have HX2:Hid (a+2 < toks.length):=hid (hw.next HX1.out (nameB_ne h1))
 have HT2:Hid (eqB (tx toks (a+2)) ⟨#[58]⟩=false):=hid ((isT_eqB toks (a+2) [58]).symm.trans h2)
 have hz:=RS.start hP #[.int .i64 0, .int .i64 0, .string ⟨#[]⟩, .string ⟨#[]⟩, .nilIface]
 have HZ0:=hid hz
 have HL:=hid hw.le
 have HW:=hid hw
 have HN0:=hid hn
 have ha4:Hid (toks.length≤401):=hid hw.le
 clear hz hP hw hn
 clear h0 h1 h2
 go_enter Tryz.func145,Tryz.ntmps145
 go_wp2_with fail
 refine (take_yes toks pb tb cap a 0 _ _ HZ0.out.ps ha HL.out HT0.out).mono ?_
 rintro e w1 ⟨rfl,hP1,hF1⟩
 have hz1:=HZ0.out.call hF1 hP1
 have c1:w1.cell? ⟨pb,1,none⟩=some (.int .i64 n):=by rw [HN0.out];exact hz1.ps.c1
 have HC1:Hid (LS toks pb tb cap w w1.heap.size (w1.alloc (.cells #[.int .i64 k, .int .i64 n, .string ⟨#[]⟩, .string ⟨#[]⟩, .nilIface] 137)) (a+1) #[.int .i64 0, .int .i64 0, .string ⟨#[]⟩, .string ⟨#[]⟩, .nilIface] #[.int .i64 k, .int .i64 n, .string ⟨#[]⟩, .string ⟨#[]⟩, .nilIface]):=hid (hz1.item _)
 clear hP1 hF1 hz1
 go_wp2_with fail
 refine (name_yes toks pb tb cap (a+1) 0 _ HC1.out.ps HX1.out HB1.out HS1.out HN1.out).mono ?_
 rintro e w2 ⟨rfl,hP1,hF1⟩
 have hc1:=HC1.out.call hF1 hP1
 have q2:w2.cell? ⟨w1.heap.size,2,none⟩=some (.string ⟨#[]⟩):=hc1.cell 2
 have g2:=hc1.f 2
 have hc2:LS toks pb tb cap w w1.heap.size (w2.setCell ⟨w1.heap.size,2,none⟩ (.string (tx toks (a+1)))) (a+2) #[.int .i64 0, .int .i64 0, .string ⟨#[]⟩, .string ⟨#[]⟩, .nilIface] #[.int .i64 k, .int .i64 n, .string (tx toks (a+1)), .string ⟨#[]⟩, .nilIface]:=hc1.set 2 _
 have HC2:=hid hc2
 clear hP1 hF1 hc1 hc2
 go_wp2_with fail
 refine (take_no toks pb tb cap (a+2) 0 _ _ HC2.out.ps HX2.out HT2.out).mono ?_
 rintro e w3 ⟨rfl,hP1,hF1⟩
 have hc2:=HC2.out.call hF1 hP1
 clear hP1 hF1
 have r0:w3.cell? ⟨w.heap.size,0,none⟩=some (.int .i64 0):=hc2.toRS.cell 0
 have rf0:=hc2.toRS.f 0
 have r1:w3.cell? ⟨w.heap.size,1,none⟩=some (.int .i64 0):=hc2.toRS.cell 1
 have rf1:=hc2.toRS.f 1
 have r2:w3.cell? ⟨w.heap.size,2,none⟩=some (.string ⟨#[]⟩):=hc2.toRS.cell 2
 have rf2:=hc2.toRS.f 2
 have r3:w3.cell? ⟨w.heap.size,3,none⟩=some (.string ⟨#[]⟩):=hc2.toRS.cell 3
 have rf3:=hc2.toRS.f 3
 have r4:w3.cell? ⟨w.heap.size,4,none⟩=some .nilIface:=hc2.toRS.cell 4
 have rf4:=hc2.toRS.f 4
 have hR:RS toks pb tb cap w (((((w3.setCell ⟨w.heap.size,0,none⟩ (.int .i64 0)).setCell ⟨w.heap.size,1,none⟩ (.int .i64 0)).setCell ⟨w.heap.size,2,none⟩ (.string ⟨#[]⟩)).setCell ⟨w.heap.size,3,none⟩ (.string ⟨#[]⟩)).setCell ⟨w.heap.size,4,none⟩ .nilIface) (a+2) #[.int .i64 0, .int .i64 0, .string ⟨#[]⟩, .string ⟨#[]⟩, .nilIface]:=hc2.toRS.put (.int .i64 0) (.int .i64 0) (.string ⟨#[]⟩) (.string ⟨#[]⟩) .nilIface
 have y0:(((((w3.setCell ⟨w.heap.size,0,none⟩ (.int .i64 0)).setCell ⟨w.heap.size,1,none⟩ (.int .i64 0)).setCell ⟨w.heap.size,2,none⟩ (.string ⟨#[]⟩)).setCell ⟨w.heap.size,3,none⟩ (.string ⟨#[]⟩)).setCell ⟨w.heap.size,4,none⟩ .nilIface).cell? ⟨w.heap.size,0,none⟩=some (.int .i64 0):=hR.cell 0
 have y1:(((((w3.setCell ⟨w.heap.size,0,none⟩ (.int .i64 0)).setCell ⟨w.heap.size,1,none⟩ (.int .i64 0)).setCell ⟨w.heap.size,2,none⟩ (.string ⟨#[]⟩)).setCell ⟨w.heap.size,3,none⟩ (.string ⟨#[]⟩)).setCell ⟨w.heap.size,4,none⟩ .nilIface).cell? ⟨w.heap.size,1,none⟩=some (.int .i64 0):=hR.cell 1
 have y2:(((((w3.setCell ⟨w.heap.size,0,none⟩ (.int .i64 0)).setCell ⟨w.heap.size,1,none⟩ (.int .i64 0)).setCell ⟨w.heap.size,2,none⟩ (.string ⟨#[]⟩)).setCell ⟨w.heap.size,3,none⟩ (.string ⟨#[]⟩)).setCell ⟨w.heap.size,4,none⟩ .nilIface).cell? ⟨w.heap.size,2,none⟩=some (.string ⟨#[]⟩):=hR.cell 2
 have y3:(((((w3.setCell ⟨w.heap.size,0,none⟩ (.int .i64 0)).setCell ⟨w.heap.size,1,none⟩ (.int .i64 0)).setCell ⟨w.heap.size,2,none⟩ (.string ⟨#[]⟩)).setCell ⟨w.heap.size,3,none⟩ (.string ⟨#[]⟩)).setCell ⟨w.heap.size,4,none⟩ .nilIface).cell? ⟨w.heap.size,3,none⟩=some (.string ⟨#[]⟩):=hR.cell 3
 have y4:(((((w3.setCell ⟨w.heap.size,0,none⟩ (.int .i64 0)).setCell ⟨w.heap.size,1,none⟩ (.int .i64 0)).setCell ⟨w.heap.size,2,none⟩ (.string ⟨#[]⟩)).setCell ⟨w.heap.size,3,none⟩ (.string ⟨#[]⟩)).setCell ⟨w.heap.size,4,none⟩ .nilIface).cell? ⟨w.heap.size,4,none⟩=some .nilIface:=hR.cell 4
 have HR:=hid hR
 clear hR hc2
 go_wp2
 refine bodyPost_ret (v := .tuple #[.agg #[.int .i64 0, .int .i64 0, .string ⟨#[]⟩, .string ⟨#[]⟩, .nilIface], .bool false]) (by simp [results,Tryz.results145,go_sem,y0,y1,y2,y3,y4];try rfl) rfl ?_
 exact ⟨⟨_,rfl,⟨_,_,_,_,_,rfl, .inl rfl⟩,fun x h=>by cases h⟩,HR.out.ps,HX2.out,HR.out.fr⟩
theorem let_3 {toks:List Tok} (hw:Wf toks) (pb tb cap k a n:Nat) (hn:n=a+1) (w:World) (ha:a < toks.length) (hP:PS toks pb tb cap a 0 w.heap)
 (h0:isT toks a [108,101,116]=true) (h1:nameB (tx toks (a+1))=true) (h2:isT toks (a+2) [58]=true) (h3:isTy toks (a+3)=false) :
 Calls Tryz.prog 145 #[.pointer (some ⟨pb,0,none⟩), .int .i64 k] w (PostI toks pb tb cap (a+3) none w):=by
 have HT0:Hid (eqB (tx toks a) ⟨#[108,101,116]⟩=true):=hid ((isT_eqB toks a [108,101,116]).symm.trans h0)
 have HX1:=hid (hw.next_isT ha h0)
 have HB1:Hid (a+1 < 401):=hid (by have:=hw.le;have:=HX1.out;omega)
 have HS1:Hid ((tx toks (a+1)).size≤maxLen):=hid (by have:=hw.size (a+1);unfold maxLen;omega)
 have HN1:=hid h1
 have HX2:Hid (a+2 < toks.length):=hid (hw.next HX1.out (nameB_ne h1))
 have HT2:Hid (eqB (tx toks (a+2)) ⟨#[58]⟩=true):=hid ((isT_eqB toks (a+2) [58]).symm.trans h2)
 have HX3:Hid (a+3 < toks.length):=hid (hw.next_isT HX2.out h2)
 have HT3:=hid h3
 have hz:=RS.start hP #[.int .i64 0, .int .i64 0, .string ⟨#[]⟩, .string ⟨#[]⟩, .nilIface]
 have HZ0:=hid hz
 have HL:=hid hw.le
 have HW:=hid hw
 have HN0:=hid hn
 have ha4:Hid (toks.length≤401):=hid hw.le
 clear hz hP hw hn
 clear h0 h1 h2 h3
 go_enter Tryz.func145,Tryz.ntmps145
 go_wp2_with fail
 refine (take_yes toks pb tb cap a 0 _ _ HZ0.out.ps ha HL.out HT0.out).mono ?_
 rintro e w1 ⟨rfl,hP1,hF1⟩
 have hz1:=HZ0.out.call hF1 hP1
 have c1:w1.cell? ⟨pb,1,none⟩=some (.int .i64 n):=by rw [HN0.out];exact hz1.ps.c1
 have HC1:Hid (LS toks pb tb cap w w1.heap.size (w1.alloc (.cells #[.int .i64 k, .int .i64 n, .string ⟨#[]⟩, .string ⟨#[]⟩, .nilIface] 137)) (a+1) #[.int .i64 0, .int .i64 0, .string ⟨#[]⟩, .string ⟨#[]⟩, .nilIface] #[.int .i64 k, .int .i64 n, .string ⟨#[]⟩, .string ⟨#[]⟩, .nilIface]):=hid (hz1.item _)
 clear hP1 hF1 hz1
 go_wp2_with fail
 refine (name_yes toks pb tb cap (a+1) 0 _ HC1.out.ps HX1.out HB1.out HS1.out HN1.out).mono ?_
 rintro e w2 ⟨rfl,hP1,hF1⟩
 have hc1:=HC1.out.call hF1 hP1
 have q2:w2.cell? ⟨w1.heap.size,2,none⟩=some (.string ⟨#[]⟩):=hc1.cell 2
 have g2:=hc1.f 2
 have hc2:LS toks pb tb cap w w1.heap.size (w2.setCell ⟨w1.heap.size,2,none⟩ (.string (tx toks (a+1)))) (a+2) #[.int .i64 0, .int .i64 0, .string ⟨#[]⟩, .string ⟨#[]⟩, .nilIface] #[.int .i64 k, .int .i64 n, .string (tx toks (a+1)), .string ⟨#[]⟩, .nilIface]:=hc1.set 2 _
 have HC2:=hid hc2
 clear hP1 hF1 hc1 hc2
 go_wp2_with fail
 refine (take_yes toks pb tb cap (a+2) 0 _ _ HC2.out.ps HX2.out HL.out HT2.out).mono ?_
 rintro e w3 ⟨rfl,hP1,hF1⟩
 have HC3:=hid (HC2.out.call hF1 hP1)
 clear hP1 hF1
 go_wp2_with fail
 refine (typeWord_no toks pb tb cap (a+3) 0 _ HC3.out.ps HX3.out HT3.out).mono ?_
 rintro e w4 ⟨rfl,hP1,hF1⟩
 have hc1:=HC3.out.call hF1 hP1
 have q3:w4.cell? ⟨w1.heap.size,3,none⟩=some (.string ⟨#[]⟩):=hc1.cell 3
 have g3:=hc1.f 3
 have hc2:=hc1.set 3 (.string (tx toks (a+3)))
 clear hP1 hF1 hc1
 have r0:(w4.setCell ⟨w1.heap.size,3,none⟩ (.string (tx toks (a+3)))).cell? ⟨w.heap.size,0,none⟩=some (.int .i64 0):=hc2.toRS.cell 0
 have rf0:=hc2.toRS.f 0
 have r1:(w4.setCell ⟨w1.heap.size,3,none⟩ (.string (tx toks (a+3)))).cell? ⟨w.heap.size,1,none⟩=some (.int .i64 0):=hc2.toRS.cell 1
 have rf1:=hc2.toRS.f 1
 have r2:(w4.setCell ⟨w1.heap.size,3,none⟩ (.string (tx toks (a+3)))).cell? ⟨w.heap.size,2,none⟩=some (.string ⟨#[]⟩):=hc2.toRS.cell 2
 have rf2:=hc2.toRS.f 2
 have r3:(w4.setCell ⟨w1.heap.size,3,none⟩ (.string (tx toks (a+3)))).cell? ⟨w.heap.size,3,none⟩=some (.string ⟨#[]⟩):=hc2.toRS.cell 3
 have rf3:=hc2.toRS.f 3
 have r4:(w4.setCell ⟨w1.heap.size,3,none⟩ (.string (tx toks (a+3)))).cell? ⟨w.heap.size,4,none⟩=some .nilIface:=hc2.toRS.cell 4
 have rf4:=hc2.toRS.f 4
 have hR:RS toks pb tb cap w ((((((w4.setCell ⟨w1.heap.size,3,none⟩ (.string (tx toks (a+3)))).setCell ⟨w.heap.size,0,none⟩ (.int .i64 0)).setCell ⟨w.heap.size,1,none⟩ (.int .i64 0)).setCell ⟨w.heap.size,2,none⟩ (.string ⟨#[]⟩)).setCell ⟨w.heap.size,3,none⟩ (.string ⟨#[]⟩)).setCell ⟨w.heap.size,4,none⟩ .nilIface) (a+3) #[.int .i64 0, .int .i64 0, .string ⟨#[]⟩, .string ⟨#[]⟩, .nilIface]:=hc2.toRS.put (.int .i64 0) (.int .i64 0) (.string ⟨#[]⟩) (.string ⟨#[]⟩) .nilIface
 have y0:((((((w4.setCell ⟨w1.heap.size,3,none⟩ (.string (tx toks (a+3)))).setCell ⟨w.heap.size,0,none⟩ (.int .i64 0)).setCell ⟨w.heap.size,1,none⟩ (.int .i64 0)).setCell ⟨w.heap.size,2,none⟩ (.string ⟨#[]⟩)).setCell ⟨w.heap.size,3,none⟩ (.string ⟨#[]⟩)).setCell ⟨w.heap.size,4,none⟩ .nilIface).cell? ⟨w.heap.size,0,none⟩=some (.int .i64 0):=hR.cell 0
 have y1:((((((w4.setCell ⟨w1.heap.size,3,none⟩ (.string (tx toks (a+3)))).setCell ⟨w.heap.size,0,none⟩ (.int .i64 0)).setCell ⟨w.heap.size,1,none⟩ (.int .i64 0)).setCell ⟨w.heap.size,2,none⟩ (.string ⟨#[]⟩)).setCell ⟨w.heap.size,3,none⟩ (.string ⟨#[]⟩)).setCell ⟨w.heap.size,4,none⟩ .nilIface).cell? ⟨w.heap.size,1,none⟩=some (.int .i64 0):=hR.cell 1
 have y2:((((((w4.setCell ⟨w1.heap.size,3,none⟩ (.string (tx toks (a+3)))).setCell ⟨w.heap.size,0,none⟩ (.int .i64 0)).setCell ⟨w.heap.size,1,none⟩ (.int .i64 0)).setCell ⟨w.heap.size,2,none⟩ (.string ⟨#[]⟩)).setCell ⟨w.heap.size,3,none⟩ (.string ⟨#[]⟩)).setCell ⟨w.heap.size,4,none⟩ .nilIface).cell? ⟨w.heap.size,2,none⟩=some (.string ⟨#[]⟩):=hR.cell 2
 have y3:((((((w4.setCell ⟨w1.heap.size,3,none⟩ (.string (tx toks (a+3)))).setCell ⟨w.heap.size,0,none⟩ (.int .i64 0)).setCell ⟨w.heap.size,1,none⟩ (.int .i64 0)).setCell ⟨w.heap.size,2,none⟩ (.string ⟨#[]⟩)).setCell ⟨w.heap.size,3,none⟩ (.string ⟨#[]⟩)).setCell ⟨w.heap.size,4,none⟩ .nilIface).cell? ⟨w.heap.size,3,none⟩=some (.string ⟨#[]⟩):=hR.cell 3
 have y4:((((((w4.setCell ⟨w1.heap.size,3,none⟩ (.string (tx toks (a+3)))).setCell ⟨w.heap.size,0,none⟩ (.int .i64 0)).setCell ⟨w.heap.size,1,none⟩ (.int .i64 0)).setCell ⟨w.heap.size,2,none⟩ (.string ⟨#[]⟩)).setCell ⟨w.heap.size,3,none⟩ (.string ⟨#[]⟩)).setCell ⟨w.heap.size,4,none⟩ .nilIface).cell? ⟨w.heap.size,4,none⟩=some .nilIface:=hR.cell 4
 have HR:=hid hR
 clear hR hc2
 go_wp2
 refine bodyPost_ret (v := .tuple #[.agg #[.int .i64 0, .int .i64 0, .string ⟨#[]⟩, .string ⟨#[]⟩, .nilIface], .bool false]) (by simp [results,Tryz.results145,go_sem,y0,y1,y2,y3,y4];try rfl) rfl ?_
 exact ⟨⟨_,rfl,⟨_,_,_,_,_,rfl, .inl rfl⟩,fun x h=>by cases h⟩,HR.out.ps,HX3.out,HR.out.fr⟩
theorem let_4 {toks:List Tok} (hw:Wf toks) (pb tb cap k a n:Nat) (hn:n=a+1) (w:World) (ha:a < toks.length) (hP:PS toks pb tb cap a 0 w.heap)
 (h0:isT toks a [108,101,116]=true) (h1:nameB (tx toks (a+1))=true) (h2:isT toks (a+2) [58]=true) (h3:isTy toks (a+3)=true) (h4:isT toks (a+4) [61]=false) :
 Calls Tryz.prog 145 #[.pointer (some ⟨pb,0,none⟩), .int .i64 k] w (PostI toks pb tb cap (a+4) none w):=by
 have HT0:Hid (eqB (tx toks a) ⟨#[108,101,116]⟩=true):=hid ((isT_eqB toks a [108,101,116]).symm.trans h0)
 have HX1:=hid (hw.next_isT ha h0)
 have HB1:Hid (a+1 < 401):=hid (by have:=hw.le;have:=HX1.out;omega)
 have HS1:Hid ((tx toks (a+1)).size≤maxLen):=hid (by have:=hw.size (a+1);unfold maxLen;omega)
 have HN1:=hid h1
 have HX2:Hid (a+2 < toks.length):=hid (hw.next HX1.out (nameB_ne h1))
 have HT2:Hid (eqB (tx toks (a+2)) ⟨#[58]⟩=true):=hid ((isT_eqB toks (a+2) [58]).symm.trans h2)
 have HX3:Hid (a+3 < toks.length):=hid (hw.next_isT HX2.out h2)
 have HT3:=hid h3
 have HX4:Hid (a+4 < toks.length):=hid (hw.next HX3.out (isTy_ne h3))
 have HT4:Hid (eqB (tx toks (a+4)) ⟨#[61]⟩=false):=hid ((isT_eqB toks (a+4) [61]).symm.trans h4)
 have hz:=RS.start hP #[.int .i64 0, .int .i64 0, .string ⟨#[]⟩, .string ⟨#[]⟩, .nilIface]
 have HZ0:=hid hz
 have HL:=hid hw.le
 have HW:=hid hw
 have HN0:=hid hn
 have ha4:Hid (toks.length≤401):=hid hw.le
 clear hz hP hw hn
 clear h0 h1 h2 h3 h4
 go_enter Tryz.func145,Tryz.ntmps145
 go_wp2_with fail
 refine (take_yes toks pb tb cap a 0 _ _ HZ0.out.ps ha HL.out HT0.out).mono ?_
 rintro e w1 ⟨rfl,hP1,hF1⟩
 have hz1:=HZ0.out.call hF1 hP1
 have c1:w1.cell? ⟨pb,1,none⟩=some (.int .i64 n):=by rw [HN0.out];exact hz1.ps.c1
 have HC1:Hid (LS toks pb tb cap w w1.heap.size (w1.alloc (.cells #[.int .i64 k, .int .i64 n, .string ⟨#[]⟩, .string ⟨#[]⟩, .nilIface] 137)) (a+1) #[.int .i64 0, .int .i64 0, .string ⟨#[]⟩, .string ⟨#[]⟩, .nilIface] #[.int .i64 k, .int .i64 n, .string ⟨#[]⟩, .string ⟨#[]⟩, .nilIface]):=hid (hz1.item _)
 clear hP1 hF1 hz1
 go_wp2_with fail
 refine (name_yes toks pb tb cap (a+1) 0 _ HC1.out.ps HX1.out HB1.out HS1.out HN1.out).mono ?_
 rintro e w2 ⟨rfl,hP1,hF1⟩
 have hc1:=HC1.out.call hF1 hP1
 have q2:w2.cell? ⟨w1.heap.size,2,none⟩=some (.string ⟨#[]⟩):=hc1.cell 2
 have g2:=hc1.f 2
 have hc2:LS toks pb tb cap w w1.heap.size (w2.setCell ⟨w1.heap.size,2,none⟩ (.string (tx toks (a+1)))) (a+2) #[.int .i64 0, .int .i64 0, .string ⟨#[]⟩, .string ⟨#[]⟩, .nilIface] #[.int .i64 k, .int .i64 n, .string (tx toks (a+1)), .string ⟨#[]⟩, .nilIface]:=hc1.set 2 _
 have HC2:=hid hc2
 clear hP1 hF1 hc1 hc2
 go_wp2_with fail
 refine (take_yes toks pb tb cap (a+2) 0 _ _ HC2.out.ps HX2.out HL.out HT2.out).mono ?_
 rintro e w3 ⟨rfl,hP1,hF1⟩
 have HC3:=hid (HC2.out.call hF1 hP1)
 clear hP1 hF1
 go_wp2_with fail
 refine (typeWord_yes toks pb tb cap (a+3) 0 _ HC3.out.ps HX3.out HL.out HT3.out).mono ?_
 rintro e w4 ⟨rfl,hP1,hF1⟩
 have hc1:=HC3.out.call hF1 hP1
 have q3:w4.cell? ⟨w1.heap.size,3,none⟩=some (.string ⟨#[]⟩):=hc1.cell 3
 have g3:=hc1.f 3
 have hc2:LS toks pb tb cap w w1.heap.size (w4.setCell ⟨w1.heap.size,3,none⟩ (.string (tx toks (a+3)))) (a+4) #[.int .i64 0, .int .i64 0, .string ⟨#[]⟩, .string ⟨#[]⟩, .nilIface] #[.int .i64 k, .int .i64 n, .string (tx toks (a+1)), .string (tx toks (a+3)), .nilIface]:=hc1.set 3 _
 have HC4:=hid hc2
 clear hP1 hF1 hc1 hc2
 go_wp2_with fail
 refine (take_no toks pb tb cap (a+4) 0 _ _ HC4.out.ps HX4.out HT4.out).mono ?_
 rintro e w5 ⟨rfl,hP1,hF1⟩
 have hc2:=HC4.out.call hF1 hP1
 clear hP1 hF1
 have r0:w5.cell? ⟨w.heap.size,0,none⟩=some (.int .i64 0):=hc2.toRS.cell 0
 have rf0:=hc2.toRS.f 0
 have r1:w5.cell? ⟨w.heap.size,1,none⟩=some (.int .i64 0):=hc2.toRS.cell 1
 have rf1:=hc2.toRS.f 1
 have r2:w5.cell? ⟨w.heap.size,2,none⟩=some (.string ⟨#[]⟩):=hc2.toRS.cell 2
 have rf2:=hc2.toRS.f 2
 have r3:w5.cell? ⟨w.heap.size,3,none⟩=some (.string ⟨#[]⟩):=hc2.toRS.cell 3
 have rf3:=hc2.toRS.f 3
 have r4:w5.cell? ⟨w.heap.size,4,none⟩=some .nilIface:=hc2.toRS.cell 4
 have rf4:=hc2.toRS.f 4
 have hR:RS toks pb tb cap w (((((w5.setCell ⟨w.heap.size,0,none⟩ (.int .i64 0)).setCell ⟨w.heap.size,1,none⟩ (.int .i64 0)).setCell ⟨w.heap.size,2,none⟩ (.string ⟨#[]⟩)).setCell ⟨w.heap.size,3,none⟩ (.string ⟨#[]⟩)).setCell ⟨w.heap.size,4,none⟩ .nilIface) (a+4) #[.int .i64 0, .int .i64 0, .string ⟨#[]⟩, .string ⟨#[]⟩, .nilIface]:=hc2.toRS.put (.int .i64 0) (.int .i64 0) (.string ⟨#[]⟩) (.string ⟨#[]⟩) .nilIface
 have y0:(((((w5.setCell ⟨w.heap.size,0,none⟩ (.int .i64 0)).setCell ⟨w.heap.size,1,none⟩ (.int .i64 0)).setCell ⟨w.heap.size,2,none⟩ (.string ⟨#[]⟩)).setCell ⟨w.heap.size,3,none⟩ (.string ⟨#[]⟩)).setCell ⟨w.heap.size,4,none⟩ .nilIface).cell? ⟨w.heap.size,0,none⟩=some (.int .i64 0):=hR.cell 0
 have y1:(((((w5.setCell ⟨w.heap.size,0,none⟩ (.int .i64 0)).setCell ⟨w.heap.size,1,none⟩ (.int .i64 0)).setCell ⟨w.heap.size,2,none⟩ (.string ⟨#[]⟩)).setCell ⟨w.heap.size,3,none⟩ (.string ⟨#[]⟩)).setCell ⟨w.heap.size,4,none⟩ .nilIface).cell? ⟨w.heap.size,1,none⟩=some (.int .i64 0):=hR.cell 1
 have y2:(((((w5.setCell ⟨w.heap.size,0,none⟩ (.int .i64 0)).setCell ⟨w.heap.size,1,none⟩ (.int .i64 0)).setCell ⟨w.heap.size,2,none⟩ (.string ⟨#[]⟩)).setCell ⟨w.heap.size,3,none⟩ (.string ⟨#[]⟩)).setCell ⟨w.heap.size,4,none⟩ .nilIface).cell? ⟨w.heap.size,2,none⟩=some (.string ⟨#[]⟩):=hR.cell 2
 have y3:(((((w5.setCell ⟨w.heap.size,0,none⟩ (.int .i64 0)).setCell ⟨w.heap.size,1,none⟩ (.int .i64 0)).setCell ⟨w.heap.size,2,none⟩ (.string ⟨#[]⟩)).setCell ⟨w.heap.size,3,none⟩ (.string ⟨#[]⟩)).setCell ⟨w.heap.size,4,none⟩ .nilIface).cell? ⟨w.heap.size,3,none⟩=some (.string ⟨#[]⟩):=hR.cell 3
 have y4:(((((w5.setCell ⟨w.heap.size,0,none⟩ (.int .i64 0)).setCell ⟨w.heap.size,1,none⟩ (.int .i64 0)).setCell ⟨w.heap.size,2,none⟩ (.string ⟨#[]⟩)).setCell ⟨w.heap.size,3,none⟩ (.string ⟨#[]⟩)).setCell ⟨w.heap.size,4,none⟩ .nilIface).cell? ⟨w.heap.size,4,none⟩=some .nilIface:=hR.cell 4
 have HR:=hid hR
 clear hR hc2
 go_wp2
 refine bodyPost_ret (v := .tuple #[.agg #[.int .i64 0, .int .i64 0, .string ⟨#[]⟩, .string ⟨#[]⟩, .nilIface], .bool false]) (by simp [results,Tryz.results145,go_sem,y0,y1,y2,y3,y4];try rfl) rfl ?_
 exact ⟨⟨_,rfl,⟨_,_,_,_,_,rfl, .inl rfl⟩,fun x h=>by cases h⟩,HR.out.ps,HX4.out,HR.out.fr⟩
theorem let_5 {toks:List Tok} (hw:Wf toks) (pb tb cap k a n:Nat) (hn:n=a+1) (w:World) (ha:a < toks.length) (hP:PS toks pb tb cap a 0 w.heap)
 (h0:isT toks a [108,101,116]=true) (h1:nameB (tx toks (a+1))=true) (h2:isT toks (a+2) [58]=true) (h3:isTy toks (a+3)=true) (h4:isT toks (a+4) [61]=true) (b:Nat) (he:exprP toks (a+5)=(b,none)) :
 Calls Tryz.prog 145 #[.pointer (some ⟨pb,0,none⟩), .int .i64 k] w (PostI toks pb tb cap (b) none w):=by
 have HT0:Hid (eqB (tx toks a) ⟨#[108,101,116]⟩=true):=hid ((isT_eqB toks a [108,101,116]).symm.trans h0)
 have HX1:=hid (hw.next_isT ha h0)
 have HB1:Hid (a+1 < 401):=hid (by have:=hw.le;have:=HX1.out;omega)
 have HS1:Hid ((tx toks (a+1)).size≤maxLen):=hid (by have:=hw.size (a+1);unfold maxLen;omega)
 have HN1:=hid h1
 have HX2:Hid (a+2 < toks.length):=hid (hw.next HX1.out (nameB_ne h1))
 have HT2:Hid (eqB (tx toks (a+2)) ⟨#[58]⟩=true):=hid ((isT_eqB toks (a+2) [58]).symm.trans h2)
 have HX3:Hid (a+3 < toks.length):=hid (hw.next_isT HX2.out h2)
 have HT3:=hid h3
 have HX4:Hid (a+4 < toks.length):=hid (hw.next HX3.out (isTy_ne h3))
 have HT4:Hid (eqB (tx toks (a+4)) ⟨#[61]⟩=true):=hid ((isT_eqB toks (a+4) [61]).symm.trans h4)
 have HX5:Hid (a+5 < toks.length):=hid (hw.next_isT HX4.out h4)
 have HE:=hid he
 have hz:=RS.start hP #[.int .i64 0, .int .i64 0, .string ⟨#[]⟩, .string ⟨#[]⟩, .nilIface]
 have HZ0:=hid hz
 have HL:=hid hw.le
 have HW:=hid hw
 have HN0:=hid hn
 have ha4:Hid (toks.length≤401):=hid hw.le
 clear hz hP hw hn
 clear h0 h1 h2 h3 h4 he
 go_enter Tryz.func145,Tryz.ntmps145
 go_wp2_with fail
 refine (take_yes toks pb tb cap a 0 _ _ HZ0.out.ps ha HL.out HT0.out).mono ?_
 rintro e w1 ⟨rfl,hP1,hF1⟩
 have hz1:=HZ0.out.call hF1 hP1
 have c1:w1.cell? ⟨pb,1,none⟩=some (.int .i64 n):=by rw [HN0.out];exact hz1.ps.c1
 have HC1:Hid (LS toks pb tb cap w w1.heap.size (w1.alloc (.cells #[.int .i64 k, .int .i64 n, .string ⟨#[]⟩, .string ⟨#[]⟩, .nilIface] 137)) (a+1) #[.int .i64 0, .int .i64 0, .string ⟨#[]⟩, .string ⟨#[]⟩, .nilIface] #[.int .i64 k, .int .i64 n, .string ⟨#[]⟩, .string ⟨#[]⟩, .nilIface]):=hid (hz1.item _)
 clear hP1 hF1 hz1
 go_wp2_with fail
 refine (name_yes toks pb tb cap (a+1) 0 _ HC1.out.ps HX1.out HB1.out HS1.out HN1.out).mono ?_
 rintro e w2 ⟨rfl,hP1,hF1⟩
 have hc1:=HC1.out.call hF1 hP1
 have q2:w2.cell? ⟨w1.heap.size,2,none⟩=some (.string ⟨#[]⟩):=hc1.cell 2
 have g2:=hc1.f 2
 have hc2:LS toks pb tb cap w w1.heap.size (w2.setCell ⟨w1.heap.size,2,none⟩ (.string (tx toks (a+1)))) (a+2) #[.int .i64 0, .int .i64 0, .string ⟨#[]⟩, .string ⟨#[]⟩, .nilIface] #[.int .i64 k, .int .i64 n, .string (tx toks (a+1)), .string ⟨#[]⟩, .nilIface]:=hc1.set 2 _
 have HC2:=hid hc2
 clear hP1 hF1 hc1 hc2
 go_wp2_with fail
 refine (take_yes toks pb tb cap (a+2) 0 _ _ HC2.out.ps HX2.out HL.out HT2.out).mono ?_
 rintro e w3 ⟨rfl,hP1,hF1⟩
 have HC3:=hid (HC2.out.call hF1 hP1)
 clear hP1 hF1
 go_wp2_with fail
 refine (typeWord_yes toks pb tb cap (a+3) 0 _ HC3.out.ps HX3.out HL.out HT3.out).mono ?_
 rintro e w4 ⟨rfl,hP1,hF1⟩
 have hc1:=HC3.out.call hF1 hP1
 have q3:w4.cell? ⟨w1.heap.size,3,none⟩=some (.string ⟨#[]⟩):=hc1.cell 3
 have g3:=hc1.f 3
 have hc2:LS toks pb tb cap w w1.heap.size (w4.setCell ⟨w1.heap.size,3,none⟩ (.string (tx toks (a+3)))) (a+4) #[.int .i64 0, .int .i64 0, .string ⟨#[]⟩, .string ⟨#[]⟩, .nilIface] #[.int .i64 k, .int .i64 n, .string (tx toks (a+1)), .string (tx toks (a+3)), .nilIface]:=hc1.set 3 _
 have HC4:=hid hc2
 clear hP1 hF1 hc1 hc2
 go_wp2_with fail
 refine (take_yes toks pb tb cap (a+4) 0 _ _ HC4.out.ps HX4.out HL.out HT4.out).mono ?_
 rintro e w5 ⟨rfl,hP1,hF1⟩
 have HC5:=hid (HC4.out.call hF1 hP1)
 clear hP1 hF1
 go_wp2_with fail
 refine (expr_any HW.out pb tb cap (a+5) _ HX5.out HC5.out.ps).mono ?_
 rw [HE.out]
 rintro e w6 ⟨⟨v,rfl,hv,hx⟩,hP1,hb6,hF1⟩
 have hc1:=HC5.out.call hF1 hP1
 have q4:w6.cell? ⟨w1.heap.size,4,none⟩=some .nilIface:=hc1.cell 4
 have g4:=hc1.f 4
 clear hP1 hF1 hx
 rcases hv with rfl | ⟨t,y,rfl⟩
 · have hc2:=hc1.set 4 (.nilIface)
   clear hc1
   have r0:(w6.setCell ⟨w1.heap.size,4,none⟩ (.nilIface)).cell? ⟨w.heap.size,0,none⟩=some (.int .i64 0):=hc2.toRS.cell 0
   have rf0:=hc2.toRS.f 0
   have r1:(w6.setCell ⟨w1.heap.size,4,none⟩ (.nilIface)).cell? ⟨w.heap.size,1,none⟩=some (.int .i64 0):=hc2.toRS.cell 1
   have rf1:=hc2.toRS.f 1
   have r2:(w6.setCell ⟨w1.heap.size,4,none⟩ (.nilIface)).cell? ⟨w.heap.size,2,none⟩=some (.string ⟨#[]⟩):=hc2.toRS.cell 2
   have rf2:=hc2.toRS.f 2
   have r3:(w6.setCell ⟨w1.heap.size,4,none⟩ (.nilIface)).cell? ⟨w.heap.size,3,none⟩=some (.string ⟨#[]⟩):=hc2.toRS.cell 3
   have rf3:=hc2.toRS.f 3
   have r4:(w6.setCell ⟨w1.heap.size,4,none⟩ (.nilIface)).cell? ⟨w.heap.size,4,none⟩=some .nilIface:=hc2.toRS.cell 4
   have rf4:=hc2.toRS.f 4
   have hR:RS toks pb tb cap w ((((((w6.setCell ⟨w1.heap.size,4,none⟩ (.nilIface)).setCell ⟨w.heap.size,0,none⟩ (.int .i64 0)).setCell ⟨w.heap.size,1,none⟩ (.int .i64 0)).setCell ⟨w.heap.size,2,none⟩ (.string ⟨#[]⟩)).setCell ⟨w.heap.size,3,none⟩ (.string ⟨#[]⟩)).setCell ⟨w.heap.size,4,none⟩ .nilIface) (b) #[.int .i64 0, .int .i64 0, .string ⟨#[]⟩, .string ⟨#[]⟩, .nilIface]:=hc2.toRS.put (.int .i64 0) (.int .i64 0) (.string ⟨#[]⟩) (.string ⟨#[]⟩) .nilIface
   have y0:((((((w6.setCell ⟨w1.heap.size,4,none⟩ (.nilIface)).setCell ⟨w.heap.size,0,none⟩ (.int .i64 0)).setCell ⟨w.heap.size,1,none⟩ (.int .i64 0)).setCell ⟨w.heap.size,2,none⟩ (.string ⟨#[]⟩)).setCell ⟨w.heap.size,3,none⟩ (.string ⟨#[]⟩)).setCell ⟨w.heap.size,4,none⟩ .nilIface).cell? ⟨w.heap.size,0,none⟩=some (.int .i64 0):=hR.cell 0
   have y1:((((((w6.setCell ⟨w1.heap.size,4,none⟩ (.nilIface)).setCell ⟨w.heap.size,0,none⟩ (.int .i64 0)).setCell ⟨w.heap.size,1,none⟩ (.int .i64 0)).setCell ⟨w.heap.size,2,none⟩ (.string ⟨#[]⟩)).setCell ⟨w.heap.size,3,none⟩ (.string ⟨#[]⟩)).setCell ⟨w.heap.size,4,none⟩ .nilIface).cell? ⟨w.heap.size,1,none⟩=some (.int .i64 0):=hR.cell 1
   have y2:((((((w6.setCell ⟨w1.heap.size,4,none⟩ (.nilIface)).setCell ⟨w.heap.size,0,none⟩ (.int .i64 0)).setCell ⟨w.heap.size,1,none⟩ (.int .i64 0)).setCell ⟨w.heap.size,2,none⟩ (.string ⟨#[]⟩)).setCell ⟨w.heap.size,3,none⟩ (.string ⟨#[]⟩)).setCell ⟨w.heap.size,4,none⟩ .nilIface).cell? ⟨w.heap.size,2,none⟩=some (.string ⟨#[]⟩):=hR.cell 2
   have y3:((((((w6.setCell ⟨w1.heap.size,4,none⟩ (.nilIface)).setCell ⟨w.heap.size,0,none⟩ (.int .i64 0)).setCell ⟨w.heap.size,1,none⟩ (.int .i64 0)).setCell ⟨w.heap.size,2,none⟩ (.string ⟨#[]⟩)).setCell ⟨w.heap.size,3,none⟩ (.string ⟨#[]⟩)).setCell ⟨w.heap.size,4,none⟩ .nilIface).cell? ⟨w.heap.size,3,none⟩=some (.string ⟨#[]⟩):=hR.cell 3
   have y4:((((((w6.setCell ⟨w1.heap.size,4,none⟩ (.nilIface)).setCell ⟨w.heap.size,0,none⟩ (.int .i64 0)).setCell ⟨w.heap.size,1,none⟩ (.int .i64 0)).setCell ⟨w.heap.size,2,none⟩ (.string ⟨#[]⟩)).setCell ⟨w.heap.size,3,none⟩ (.string ⟨#[]⟩)).setCell ⟨w.heap.size,4,none⟩ .nilIface).cell? ⟨w.heap.size,4,none⟩=some .nilIface:=hR.cell 4
   have HR:=hid hR
   clear hR hc2
   go_wp2
   refine bodyPost_ret (v := .tuple #[.agg #[.int .i64 0, .int .i64 0, .string ⟨#[]⟩, .string ⟨#[]⟩, .nilIface], .bool false]) (by simp [results,Tryz.results145,go_sem,y0,y1,y2,y3,y4];try rfl) rfl ?_
   exact ⟨⟨_,rfl,⟨_,_,_,_,_,rfl, .inl rfl⟩,fun x h=>by cases h⟩,HR.out.ps,hb6,HR.out.fr⟩
 · have hc2:=hc1.set 4 (.iface t y)
   clear hc1
   have r0:(w6.setCell ⟨w1.heap.size,4,none⟩ (.iface t y)).cell? ⟨w.heap.size,0,none⟩=some (.int .i64 0):=hc2.toRS.cell 0
   have rf0:=hc2.toRS.f 0
   have r1:(w6.setCell ⟨w1.heap.size,4,none⟩ (.iface t y)).cell? ⟨w.heap.size,1,none⟩=some (.int .i64 0):=hc2.toRS.cell 1
   have rf1:=hc2.toRS.f 1
   have r2:(w6.setCell ⟨w1.heap.size,4,none⟩ (.iface t y)).cell? ⟨w.heap.size,2,none⟩=some (.string ⟨#[]⟩):=hc2.toRS.cell 2
   have rf2:=hc2.toRS.f 2
   have r3:(w6.setCell ⟨w1.heap.size,4,none⟩ (.iface t y)).cell? ⟨w.heap.size,3,none⟩=some (.string ⟨#[]⟩):=hc2.toRS.cell 3
   have rf3:=hc2.toRS.f 3
   have r4:(w6.setCell ⟨w1.heap.size,4,none⟩ (.iface t y)).cell? ⟨w.heap.size,4,none⟩=some .nilIface:=hc2.toRS.cell 4
   have rf4:=hc2.toRS.f 4
   have hR:RS toks pb tb cap w ((((((w6.setCell ⟨w1.heap.size,4,none⟩ (.iface t y)).setCell ⟨w.heap.size,0,none⟩ (.int .i64 0)).setCell ⟨w.heap.size,1,none⟩ (.int .i64 0)).setCell ⟨w.heap.size,2,none⟩ (.string ⟨#[]⟩)).setCell ⟨w.heap.size,3,none⟩ (.string ⟨#[]⟩)).setCell ⟨w.heap.size,4,none⟩ .nilIface) (b) #[.int .i64 0, .int .i64 0, .string ⟨#[]⟩, .string ⟨#[]⟩, .nilIface]:=hc2.toRS.put (.int .i64 0) (.int .i64 0) (.string ⟨#[]⟩) (.string ⟨#[]⟩) .nilIface
   have y0:((((((w6.setCell ⟨w1.heap.size,4,none⟩ (.iface t y)).setCell ⟨w.heap.size,0,none⟩ (.int .i64 0)).setCell ⟨w.heap.size,1,none⟩ (.int .i64 0)).setCell ⟨w.heap.size,2,none⟩ (.string ⟨#[]⟩)).setCell ⟨w.heap.size,3,none⟩ (.string ⟨#[]⟩)).setCell ⟨w.heap.size,4,none⟩ .nilIface).cell? ⟨w.heap.size,0,none⟩=some (.int .i64 0):=hR.cell 0
   have y1:((((((w6.setCell ⟨w1.heap.size,4,none⟩ (.iface t y)).setCell ⟨w.heap.size,0,none⟩ (.int .i64 0)).setCell ⟨w.heap.size,1,none⟩ (.int .i64 0)).setCell ⟨w.heap.size,2,none⟩ (.string ⟨#[]⟩)).setCell ⟨w.heap.size,3,none⟩ (.string ⟨#[]⟩)).setCell ⟨w.heap.size,4,none⟩ .nilIface).cell? ⟨w.heap.size,1,none⟩=some (.int .i64 0):=hR.cell 1
   have y2:((((((w6.setCell ⟨w1.heap.size,4,none⟩ (.iface t y)).setCell ⟨w.heap.size,0,none⟩ (.int .i64 0)).setCell ⟨w.heap.size,1,none⟩ (.int .i64 0)).setCell ⟨w.heap.size,2,none⟩ (.string ⟨#[]⟩)).setCell ⟨w.heap.size,3,none⟩ (.string ⟨#[]⟩)).setCell ⟨w.heap.size,4,none⟩ .nilIface).cell? ⟨w.heap.size,2,none⟩=some (.string ⟨#[]⟩):=hR.cell 2
   have y3:((((((w6.setCell ⟨w1.heap.size,4,none⟩ (.iface t y)).setCell ⟨w.heap.size,0,none⟩ (.int .i64 0)).setCell ⟨w.heap.size,1,none⟩ (.int .i64 0)).setCell ⟨w.heap.size,2,none⟩ (.string ⟨#[]⟩)).setCell ⟨w.heap.size,3,none⟩ (.string ⟨#[]⟩)).setCell ⟨w.heap.size,4,none⟩ .nilIface).cell? ⟨w.heap.size,3,none⟩=some (.string ⟨#[]⟩):=hR.cell 3
   have y4:((((((w6.setCell ⟨w1.heap.size,4,none⟩ (.iface t y)).setCell ⟨w.heap.size,0,none⟩ (.int .i64 0)).setCell ⟨w.heap.size,1,none⟩ (.int .i64 0)).setCell ⟨w.heap.size,2,none⟩ (.string ⟨#[]⟩)).setCell ⟨w.heap.size,3,none⟩ (.string ⟨#[]⟩)).setCell ⟨w.heap.size,4,none⟩ .nilIface).cell? ⟨w.heap.size,4,none⟩=some .nilIface:=hR.cell 4
   have HR:=hid hR
   clear hR hc2
   go_wp2
   refine bodyPost_ret (v := .tuple #[.agg #[.int .i64 0, .int .i64 0, .string ⟨#[]⟩, .string ⟨#[]⟩, .nilIface], .bool false]) (by simp [results,Tryz.results145,go_sem,y0,y1,y2,y3,y4];try rfl) rfl ?_
   exact ⟨⟨_,rfl,⟨_,_,_,_,_,rfl, .inl rfl⟩,fun x h=>by cases h⟩,HR.out.ps,hb6,HR.out.fr⟩
theorem let_6 {toks:List Tok} (hw:Wf toks) (pb tb cap k a n:Nat) (hn:n=a+1) (w:World) (ha:a < toks.length) (hP:PS toks pb tb cap a 0 w.heap)
 (h0:isT toks a [108,101,116]=true) (h1:nameB (tx toks (a+1))=true) (h2:isT toks (a+2) [58]=true) (h3:isTy toks (a+3)=true) (h4:isT toks (a+4) [61]=true) (b:Nat) (t:TypeId) (y:Value) (he:exprP toks (a+5)=(b,some (.iface t y))) (h6:isT toks b [59]=false) :
 Calls Tryz.prog 145 #[.pointer (some ⟨pb,0,none⟩), .int .i64 k] w (PostI toks pb tb cap (b) none w):=by
 have HT0:Hid (eqB (tx toks a) ⟨#[108,101,116]⟩=true):=hid ((isT_eqB toks a [108,101,116]).symm.trans h0)
 have HX1:=hid (hw.next_isT ha h0)
 have HB1:Hid (a+1 < 401):=hid (by have:=hw.le;have:=HX1.out;omega)
 have HS1:Hid ((tx toks (a+1)).size≤maxLen):=hid (by have:=hw.size (a+1);unfold maxLen;omega)
 have HN1:=hid h1
 have HX2:Hid (a+2 < toks.length):=hid (hw.next HX1.out (nameB_ne h1))
 have HT2:Hid (eqB (tx toks (a+2)) ⟨#[58]⟩=true):=hid ((isT_eqB toks (a+2) [58]).symm.trans h2)
 have HX3:Hid (a+3 < toks.length):=hid (hw.next_isT HX2.out h2)
 have HT3:=hid h3
 have HX4:Hid (a+4 < toks.length):=hid (hw.next HX3.out (isTy_ne h3))
 have HT4:Hid (eqB (tx toks (a+4)) ⟨#[61]⟩=true):=hid ((isT_eqB toks (a+4) [61]).symm.trans h4)
 have HX5:Hid (a+5 < toks.length):=hid (hw.next_isT HX4.out h4)
 have HE:=hid he
 have HT6:Hid (eqB (tx toks b) ⟨#[59]⟩=false):=hid ((isT_eqB toks b [59]).symm.trans h6)
 have hz:=RS.start hP #[.int .i64 0, .int .i64 0, .string ⟨#[]⟩, .string ⟨#[]⟩, .nilIface]
 have HZ0:=hid hz
 have HL:=hid hw.le
 have HW:=hid hw
 have HN0:=hid hn
 have ha4:Hid (toks.length≤401):=hid hw.le
 clear hz hP hw hn
 clear h0 h1 h2 h3 h4 he h6
 go_enter Tryz.func145,Tryz.ntmps145
 go_wp2_with fail
 refine (take_yes toks pb tb cap a 0 _ _ HZ0.out.ps ha HL.out HT0.out).mono ?_
 rintro e w1 ⟨rfl,hP1,hF1⟩
 have hz1:=HZ0.out.call hF1 hP1
 have c1:w1.cell? ⟨pb,1,none⟩=some (.int .i64 n):=by rw [HN0.out];exact hz1.ps.c1
 have HC1:Hid (LS toks pb tb cap w w1.heap.size (w1.alloc (.cells #[.int .i64 k, .int .i64 n, .string ⟨#[]⟩, .string ⟨#[]⟩, .nilIface] 137)) (a+1) #[.int .i64 0, .int .i64 0, .string ⟨#[]⟩, .string ⟨#[]⟩, .nilIface] #[.int .i64 k, .int .i64 n, .string ⟨#[]⟩, .string ⟨#[]⟩, .nilIface]):=hid (hz1.item _)
 clear hP1 hF1 hz1
 go_wp2_with fail
 refine (name_yes toks pb tb cap (a+1) 0 _ HC1.out.ps HX1.out HB1.out HS1.out HN1.out).mono ?_
 rintro e w2 ⟨rfl,hP1,hF1⟩
 have hc1:=HC1.out.call hF1 hP1
 have q2:w2.cell? ⟨w1.heap.size,2,none⟩=some (.string ⟨#[]⟩):=hc1.cell 2
 have g2:=hc1.f 2
 have hc2:LS toks pb tb cap w w1.heap.size (w2.setCell ⟨w1.heap.size,2,none⟩ (.string (tx toks (a+1)))) (a+2) #[.int .i64 0, .int .i64 0, .string ⟨#[]⟩, .string ⟨#[]⟩, .nilIface] #[.int .i64 k, .int .i64 n, .string (tx toks (a+1)), .string ⟨#[]⟩, .nilIface]:=hc1.set 2 _
 have HC2:=hid hc2
 clear hP1 hF1 hc1 hc2
 go_wp2_with fail
 refine (take_yes toks pb tb cap (a+2) 0 _ _ HC2.out.ps HX2.out HL.out HT2.out).mono ?_
 rintro e w3 ⟨rfl,hP1,hF1⟩
 have HC3:=hid (HC2.out.call hF1 hP1)
 clear hP1 hF1
 go_wp2_with fail
 refine (typeWord_yes toks pb tb cap (a+3) 0 _ HC3.out.ps HX3.out HL.out HT3.out).mono ?_
 rintro e w4 ⟨rfl,hP1,hF1⟩
 have hc1:=HC3.out.call hF1 hP1
 have q3:w4.cell? ⟨w1.heap.size,3,none⟩=some (.string ⟨#[]⟩):=hc1.cell 3
 have g3:=hc1.f 3
 have hc2:LS toks pb tb cap w w1.heap.size (w4.setCell ⟨w1.heap.size,3,none⟩ (.string (tx toks (a+3)))) (a+4) #[.int .i64 0, .int .i64 0, .string ⟨#[]⟩, .string ⟨#[]⟩, .nilIface] #[.int .i64 k, .int .i64 n, .string (tx toks (a+1)), .string (tx toks (a+3)), .nilIface]:=hc1.set 3 _
 have HC4:=hid hc2
 clear hP1 hF1 hc1 hc2
 go_wp2_with fail
 refine (take_yes toks pb tb cap (a+4) 0 _ _ HC4.out.ps HX4.out HL.out HT4.out).mono ?_
 rintro e w5 ⟨rfl,hP1,hF1⟩
 have HC5:=hid (HC4.out.call hF1 hP1)
 clear hP1 hF1
 go_wp2_with fail
 refine (expr_any HW.out pb tb cap (a+5) _ HX5.out HC5.out.ps).mono ?_
 rw [HE.out]
 rintro e w6 ⟨⟨v,rfl,hv,hx⟩,hP1,hb6,hF1⟩
 have hc1:=HC5.out.call hF1 hP1
 have q4:w6.cell? ⟨w1.heap.size,4,none⟩=some .nilIface:=hc1.cell 4
 have g4:=hc1.f 4
 obtain rfl:=hx _ rfl
 clear hx hv
 have hc2:LS toks pb tb cap w w1.heap.size (w6.setCell ⟨w1.heap.size,4,none⟩ (.iface t y)) b #[.int .i64 0, .int .i64 0, .string ⟨#[]⟩, .string ⟨#[]⟩, .nilIface] #[.int .i64 k, .int .i64 n, .string (tx toks (a+1)), .string (tx toks (a+3)), .iface t y]:=hc1.set 4 _
 have HC6:=hid hc2
 clear hP1 hF1 hc1 hc2
 have e0:(w6.setCell ⟨w1.heap.size,4,none⟩ (.iface t y)).drew.cell? ⟨w1.heap.size,0,none⟩=some (.int .i64 k):=HC6.out.cell 0
 have e1:(w6.setCell ⟨w1.heap.size,4,none⟩ (.iface t y)).drew.cell? ⟨w1.heap.size,1,none⟩=some (.int .i64 n):=HC6.out.cell 1
 have e2:(w6.setCell ⟨w1.heap.size,4,none⟩ (.iface t y)).drew.cell? ⟨w1.heap.size,2,none⟩=some (.string (tx toks (a+1))):=HC6.out.cell 2
 have e3:(w6.setCell ⟨w1.heap.size,4,none⟩ (.iface t y)).drew.cell? ⟨w1.heap.size,3,none⟩=some (.string (tx toks (a+3))):=HC6.out.cell 3
 have e4:(w6.setCell ⟨w1.heap.size,4,none⟩ (.iface t y)).drew.cell? ⟨w1.heap.size,4,none⟩=some (.iface t y):=HC6.out.cell 4
 go_wp2_with fail
 go_region_with (go_at_call 143;go_must (refine (take_no toks pb tb cap _ 0 _ _ ?hps hb6 HT6.out).mono ?_;(case hps=>exact HC6.out.ps);rintro e w7 ⟨rfl,hP2,hF2⟩;have hc3:=HC6.out.call ((Fr.refl _ _).drew.trans hF2) hP2;have k0:w7.cell? ⟨w1.heap.size,0,none⟩=some (.int .i64 k):=hc3.cell 0;have k1:w7.cell? ⟨w1.heap.size,1,none⟩=some (.int .i64 n):=hc3.cell 1;have k2:w7.cell? ⟨w1.heap.size,2,none⟩=some (.string (tx toks (a+1))):=hc3.cell 2;have k3:w7.cell? ⟨w1.heap.size,3,none⟩=some (.string (tx toks (a+3))):=hc3.cell 3;have k4:w7.cell? ⟨w1.heap.size,4,none⟩=some (.iface t y):=hc3.cell 4;have r0:w7.cell? ⟨w.heap.size,0,none⟩=some (.int .i64 0):=hc3.toRS.cell 0;have r1:w7.cell? ⟨w.heap.size,1,none⟩=some (.int .i64 0):=hc3.toRS.cell 1;have r2:w7.cell? ⟨w.heap.size,2,none⟩=some (.string ⟨#[]⟩):=hc3.toRS.cell 2;have r3:w7.cell? ⟨w.heap.size,3,none⟩=some (.string ⟨#[]⟩):=hc3.toRS.cell 3;have r4:w7.cell? ⟨w.heap.size,4,none⟩=some .nilIface:=hc3.toRS.cell 4;have rf0:=hc3.toRS.f 0;have rf1:=hc3.toRS.f 1;have rf2:=hc3.toRS.f 2;have rf3:=hc3.toRS.f 3;have rf4:=hc3.toRS.f 4;have HC7:=hid hc3;clear hP2 hF2 hc3))
 all_goals
  have hR:RS toks pb tb cap w (((((w7.setCell ⟨w.heap.size,0,none⟩ (.int .i64 k)).setCell ⟨w.heap.size,1,none⟩ (.int .i64 n)).setCell ⟨w.heap.size,2,none⟩ (.string (tx toks (a+1)))).setCell ⟨w.heap.size,3,none⟩ (.string (tx toks (a+3)))).setCell ⟨w.heap.size,4,none⟩ (.iface t y)) (b) #[.int .i64 k, .int .i64 n, .string (tx toks (a+1)), .string (tx toks (a+3)), .iface t y]:=HC7.out.toRS.put (.int .i64 k) (.int .i64 n) (.string (tx toks (a+1))) (.string (tx toks (a+3))) (.iface t y)
  have y0:(((((w7.setCell ⟨w.heap.size,0,none⟩ (.int .i64 k)).setCell ⟨w.heap.size,1,none⟩ (.int .i64 n)).setCell ⟨w.heap.size,2,none⟩ (.string (tx toks (a+1)))).setCell ⟨w.heap.size,3,none⟩ (.string (tx toks (a+3)))).setCell ⟨w.heap.size,4,none⟩ (.iface t y)).cell? ⟨w.heap.size,0,none⟩=some (.int .i64 k):=hR.cell 0
  have y1:(((((w7.setCell ⟨w.heap.size,0,none⟩ (.int .i64 k)).setCell ⟨w.heap.size,1,none⟩ (.int .i64 n)).setCell ⟨w.heap.size,2,none⟩ (.string (tx toks (a+1)))).setCell ⟨w.heap.size,3,none⟩ (.string (tx toks (a+3)))).setCell ⟨w.heap.size,4,none⟩ (.iface t y)).cell? ⟨w.heap.size,1,none⟩=some (.int .i64 n):=hR.cell 1
  have y2:(((((w7.setCell ⟨w.heap.size,0,none⟩ (.int .i64 k)).setCell ⟨w.heap.size,1,none⟩ (.int .i64 n)).setCell ⟨w.heap.size,2,none⟩ (.string (tx toks (a+1)))).setCell ⟨w.heap.size,3,none⟩ (.string (tx toks (a+3)))).setCell ⟨w.heap.size,4,none⟩ (.iface t y)).cell? ⟨w.heap.size,2,none⟩=some (.string (tx toks (a+1))):=hR.cell 2
  have y3:(((((w7.setCell ⟨w.heap.size,0,none⟩ (.int .i64 k)).setCell ⟨w.heap.size,1,none⟩ (.int .i64 n)).setCell ⟨w.heap.size,2,none⟩ (.string (tx toks (a+1)))).setCell ⟨w.heap.size,3,none⟩ (.string (tx toks (a+3)))).setCell ⟨w.heap.size,4,none⟩ (.iface t y)).cell? ⟨w.heap.size,3,none⟩=some (.string (tx toks (a+3))):=hR.cell 3
  have y4:(((((w7.setCell ⟨w.heap.size,0,none⟩ (.int .i64 k)).setCell ⟨w.heap.size,1,none⟩ (.int .i64 n)).setCell ⟨w.heap.size,2,none⟩ (.string (tx toks (a+1)))).setCell ⟨w.heap.size,3,none⟩ (.string (tx toks (a+3)))).setCell ⟨w.heap.size,4,none⟩ (.iface t y)).cell? ⟨w.heap.size,4,none⟩=some (.iface t y):=hR.cell 4
  have HR:=hid hR
  clear hR
  go_wp2
  refine bodyPost_ret (v := .tuple #[.agg #[.int .i64 k, .int .i64 n, .string (tx toks (a+1)), .string (tx toks (a+3)), .iface t y], .bool false]) (by simp [results,Tryz.results145,go_sem,y0,y1,y2,y3,y4];try rfl) rfl ?_
  exact ⟨⟨_,rfl,⟨_,_,_,_,_,rfl, .inr ⟨_,_,rfl⟩⟩,fun x h=>by cases h⟩,HR.out.ps,hb6,HR.out.fr⟩
theorem let_7 {toks:List Tok} (hw:Wf toks) (pb tb cap k a n:Nat) (hn:n=a+1) (w:World) (ha:a < toks.length) (hP:PS toks pb tb cap a 0 w.heap)
 (h0:isT toks a [108,101,116]=true) (h1:nameB (tx toks (a+1))=true) (h2:isT toks (a+2) [58]=true) (h3:isTy toks (a+3)=true) (h4:isT toks (a+4) [61]=true) (b:Nat) (t:TypeId) (y:Value) (he:exprP toks (a+5)=(b,some (.iface t y))) (h6:isT toks b [59]=true) (h7:b+1 < toks.length) :
 Calls Tryz.prog 145 #[.pointer (some ⟨pb,0,none⟩), .int .i64 k] w (PostI toks pb tb cap (b+1) (some ⟨k,n,tx toks (a+1),tx toks (a+3), .iface t y⟩) w):=by
 have HT0:Hid (eqB (tx toks a) ⟨#[108,101,116]⟩=true):=hid ((isT_eqB toks a [108,101,116]).symm.trans h0)
 have HX1:=hid (hw.next_isT ha h0)
 have HB1:Hid (a+1 < 401):=hid (by have:=hw.le;have:=HX1.out;omega)
 have HS1:Hid ((tx toks (a+1)).size≤maxLen):=hid (by have:=hw.size (a+1);unfold maxLen;omega)
 have HN1:=hid h1
 have HX2:Hid (a+2 < toks.length):=hid (hw.next HX1.out (nameB_ne h1))
 have HT2:Hid (eqB (tx toks (a+2)) ⟨#[58]⟩=true):=hid ((isT_eqB toks (a+2) [58]).symm.trans h2)
 have HX3:Hid (a+3 < toks.length):=hid (hw.next_isT HX2.out h2)
 have HT3:=hid h3
 have HX4:Hid (a+4 < toks.length):=hid (hw.next HX3.out (isTy_ne h3))
 have HT4:Hid (eqB (tx toks (a+4)) ⟨#[61]⟩=true):=hid ((isT_eqB toks (a+4) [61]).symm.trans h4)
 have HX5:Hid (a+5 < toks.length):=hid (hw.next_isT HX4.out h4)
 have HE:=hid he
 have HT6:Hid (eqB (tx toks b) ⟨#[59]⟩=true):=hid ((isT_eqB toks b [59]).symm.trans h6)
 have HX6:=hid h7
 have hz:=RS.start hP #[.int .i64 0, .int .i64 0, .string ⟨#[]⟩, .string ⟨#[]⟩, .nilIface]
 have HZ0:=hid hz
 have HL:=hid hw.le
 have HW:=hid hw
 have HN0:=hid hn
 have ha4:Hid (toks.length≤401):=hid hw.le
 clear hz hP hw hn
 clear h0 h1 h2 h3 h4 he h6 h7
 go_enter Tryz.func145,Tryz.ntmps145
 go_wp2_with fail
 refine (take_yes toks pb tb cap a 0 _ _ HZ0.out.ps ha HL.out HT0.out).mono ?_
 rintro e w1 ⟨rfl,hP1,hF1⟩
 have hz1:=HZ0.out.call hF1 hP1
 have c1:w1.cell? ⟨pb,1,none⟩=some (.int .i64 n):=by rw [HN0.out];exact hz1.ps.c1
 have HC1:Hid (LS toks pb tb cap w w1.heap.size (w1.alloc (.cells #[.int .i64 k, .int .i64 n, .string ⟨#[]⟩, .string ⟨#[]⟩, .nilIface] 137)) (a+1) #[.int .i64 0, .int .i64 0, .string ⟨#[]⟩, .string ⟨#[]⟩, .nilIface] #[.int .i64 k, .int .i64 n, .string ⟨#[]⟩, .string ⟨#[]⟩, .nilIface]):=hid (hz1.item _)
 clear hP1 hF1 hz1
 go_wp2_with fail
 refine (name_yes toks pb tb cap (a+1) 0 _ HC1.out.ps HX1.out HB1.out HS1.out HN1.out).mono ?_
 rintro e w2 ⟨rfl,hP1,hF1⟩
 have hc1:=HC1.out.call hF1 hP1
 have q2:w2.cell? ⟨w1.heap.size,2,none⟩=some (.string ⟨#[]⟩):=hc1.cell 2
 have g2:=hc1.f 2
 have hc2:LS toks pb tb cap w w1.heap.size (w2.setCell ⟨w1.heap.size,2,none⟩ (.string (tx toks (a+1)))) (a+2) #[.int .i64 0, .int .i64 0, .string ⟨#[]⟩, .string ⟨#[]⟩, .nilIface] #[.int .i64 k, .int .i64 n, .string (tx toks (a+1)), .string ⟨#[]⟩, .nilIface]:=hc1.set 2 _
 have HC2:=hid hc2
 clear hP1 hF1 hc1 hc2
 go_wp2_with fail
 refine (take_yes toks pb tb cap (a+2) 0 _ _ HC2.out.ps HX2.out HL.out HT2.out).mono ?_
 rintro e w3 ⟨rfl,hP1,hF1⟩
 have HC3:=hid (HC2.out.call hF1 hP1)
 clear hP1 hF1
 go_wp2_with fail
 refine (typeWord_yes toks pb tb cap (a+3) 0 _ HC3.out.ps HX3.out HL.out HT3.out).mono ?_
 rintro e w4 ⟨rfl,hP1,hF1⟩
 have hc1:=HC3.out.call hF1 hP1
 have q3:w4.cell? ⟨w1.heap.size,3,none⟩=some (.string ⟨#[]⟩):=hc1.cell 3
 have g3:=hc1.f 3
 have hc2:LS toks pb tb cap w w1.heap.size (w4.setCell ⟨w1.heap.size,3,none⟩ (.string (tx toks (a+3)))) (a+4) #[.int .i64 0, .int .i64 0, .string ⟨#[]⟩, .string ⟨#[]⟩, .nilIface] #[.int .i64 k, .int .i64 n, .string (tx toks (a+1)), .string (tx toks (a+3)), .nilIface]:=hc1.set 3 _
 have HC4:=hid hc2
 clear hP1 hF1 hc1 hc2
 go_wp2_with fail
 refine (take_yes toks pb tb cap (a+4) 0 _ _ HC4.out.ps HX4.out HL.out HT4.out).mono ?_
 rintro e w5 ⟨rfl,hP1,hF1⟩
 have HC5:=hid (HC4.out.call hF1 hP1)
 clear hP1 hF1
 go_wp2_with fail
 refine (expr_any HW.out pb tb cap (a+5) _ HX5.out HC5.out.ps).mono ?_
 rw [HE.out]
 rintro e w6 ⟨⟨v,rfl,hv,hx⟩,hP1,hb6,hF1⟩
 have hc1:=HC5.out.call hF1 hP1
 have q4:w6.cell? ⟨w1.heap.size,4,none⟩=some .nilIface:=hc1.cell 4
 have g4:=hc1.f 4
 obtain rfl:=hx _ rfl
 clear hx hv
 have hc2:LS toks pb tb cap w w1.heap.size (w6.setCell ⟨w1.heap.size,4,none⟩ (.iface t y)) b #[.int .i64 0, .int .i64 0, .string ⟨#[]⟩, .string ⟨#[]⟩, .nilIface] #[.int .i64 k, .int .i64 n, .string (tx toks (a+1)), .string (tx toks (a+3)), .iface t y]:=hc1.set 4 _
 have HC6:=hid hc2
 clear hP1 hF1 hc1 hc2
 have e0:(w6.setCell ⟨w1.heap.size,4,none⟩ (.iface t y)).drew.cell? ⟨w1.heap.size,0,none⟩=some (.int .i64 k):=HC6.out.cell 0
 have e1:(w6.setCell ⟨w1.heap.size,4,none⟩ (.iface t y)).drew.cell? ⟨w1.heap.size,1,none⟩=some (.int .i64 n):=HC6.out.cell 1
 have e2:(w6.setCell ⟨w1.heap.size,4,none⟩ (.iface t y)).drew.cell? ⟨w1.heap.size,2,none⟩=some (.string (tx toks (a+1))):=HC6.out.cell 2
 have e3:(w6.setCell ⟨w1.heap.size,4,none⟩ (.iface t y)).drew.cell? ⟨w1.heap.size,3,none⟩=some (.string (tx toks (a+3))):=HC6.out.cell 3
 have e4:(w6.setCell ⟨w1.heap.size,4,none⟩ (.iface t y)).drew.cell? ⟨w1.heap.size,4,none⟩=some (.iface t y):=HC6.out.cell 4
 go_wp2_with fail
 go_region_with (go_at_call 143;go_must (refine (take_yes toks pb tb cap _ 0 _ _ ?hps hb6 HL.out HT6.out).mono ?_;(case hps=>exact HC6.out.ps);rintro e w7 ⟨rfl,hP2,hF2⟩;have hc3:=HC6.out.call ((Fr.refl _ _).drew.trans hF2) hP2;have k0:w7.cell? ⟨w1.heap.size,0,none⟩=some (.int .i64 k):=hc3.cell 0;have k1:w7.cell? ⟨w1.heap.size,1,none⟩=some (.int .i64 n):=hc3.cell 1;have k2:w7.cell? ⟨w1.heap.size,2,none⟩=some (.string (tx toks (a+1))):=hc3.cell 2;have k3:w7.cell? ⟨w1.heap.size,3,none⟩=some (.string (tx toks (a+3))):=hc3.cell 3;have k4:w7.cell? ⟨w1.heap.size,4,none⟩=some (.iface t y):=hc3.cell 4;have r0:w7.cell? ⟨w.heap.size,0,none⟩=some (.int .i64 0):=hc3.toRS.cell 0;have r1:w7.cell? ⟨w.heap.size,1,none⟩=some (.int .i64 0):=hc3.toRS.cell 1;have r2:w7.cell? ⟨w.heap.size,2,none⟩=some (.string ⟨#[]⟩):=hc3.toRS.cell 2;have r3:w7.cell? ⟨w.heap.size,3,none⟩=some (.string ⟨#[]⟩):=hc3.toRS.cell 3;have r4:w7.cell? ⟨w.heap.size,4,none⟩=some .nilIface:=hc3.toRS.cell 4;have rf0:=hc3.toRS.f 0;have rf1:=hc3.toRS.f 1;have rf2:=hc3.toRS.f 2;have rf3:=hc3.toRS.f 3;have rf4:=hc3.toRS.f 4;have HC7:=hid hc3;clear hP2 hF2 hc3))
 all_goals
  have hR:RS toks pb tb cap w (((((w7.setCell ⟨w.heap.size,0,none⟩ (.int .i64 k)).setCell ⟨w.heap.size,1,none⟩ (.int .i64 n)).setCell ⟨w.heap.size,2,none⟩ (.string (tx toks (a+1)))).setCell ⟨w.heap.size,3,none⟩ (.string (tx toks (a+3)))).setCell ⟨w.heap.size,4,none⟩ (.iface t y)) (b+1) #[.int .i64 k, .int .i64 n, .string (tx toks (a+1)), .string (tx toks (a+3)), .iface t y]:=HC7.out.toRS.put (.int .i64 k) (.int .i64 n) (.string (tx toks (a+1))) (.string (tx toks (a+3))) (.iface t y)
  have y0:(((((w7.setCell ⟨w.heap.size,0,none⟩ (.int .i64 k)).setCell ⟨w.heap.size,1,none⟩ (.int .i64 n)).setCell ⟨w.heap.size,2,none⟩ (.string (tx toks (a+1)))).setCell ⟨w.heap.size,3,none⟩ (.string (tx toks (a+3)))).setCell ⟨w.heap.size,4,none⟩ (.iface t y)).cell? ⟨w.heap.size,0,none⟩=some (.int .i64 k):=hR.cell 0
  have y1:(((((w7.setCell ⟨w.heap.size,0,none⟩ (.int .i64 k)).setCell ⟨w.heap.size,1,none⟩ (.int .i64 n)).setCell ⟨w.heap.size,2,none⟩ (.string (tx toks (a+1)))).setCell ⟨w.heap.size,3,none⟩ (.string (tx toks (a+3)))).setCell ⟨w.heap.size,4,none⟩ (.iface t y)).cell? ⟨w.heap.size,1,none⟩=some (.int .i64 n):=hR.cell 1
  have y2:(((((w7.setCell ⟨w.heap.size,0,none⟩ (.int .i64 k)).setCell ⟨w.heap.size,1,none⟩ (.int .i64 n)).setCell ⟨w.heap.size,2,none⟩ (.string (tx toks (a+1)))).setCell ⟨w.heap.size,3,none⟩ (.string (tx toks (a+3)))).setCell ⟨w.heap.size,4,none⟩ (.iface t y)).cell? ⟨w.heap.size,2,none⟩=some (.string (tx toks (a+1))):=hR.cell 2
  have y3:(((((w7.setCell ⟨w.heap.size,0,none⟩ (.int .i64 k)).setCell ⟨w.heap.size,1,none⟩ (.int .i64 n)).setCell ⟨w.heap.size,2,none⟩ (.string (tx toks (a+1)))).setCell ⟨w.heap.size,3,none⟩ (.string (tx toks (a+3)))).setCell ⟨w.heap.size,4,none⟩ (.iface t y)).cell? ⟨w.heap.size,3,none⟩=some (.string (tx toks (a+3))):=hR.cell 3
  have y4:(((((w7.setCell ⟨w.heap.size,0,none⟩ (.int .i64 k)).setCell ⟨w.heap.size,1,none⟩ (.int .i64 n)).setCell ⟨w.heap.size,2,none⟩ (.string (tx toks (a+1)))).setCell ⟨w.heap.size,3,none⟩ (.string (tx toks (a+3)))).setCell ⟨w.heap.size,4,none⟩ (.iface t y)).cell? ⟨w.heap.size,4,none⟩=some (.iface t y):=hR.cell 4
  have HR:=hid hR
  clear hR
  go_wp2
  refine bodyPost_ret (v := .tuple #[.agg #[.int .i64 k, .int .i64 n, .string (tx toks (a+1)), .string (tx toks (a+3)), .iface t y], .bool true]) (by simp [results,Tryz.results145,go_sem,y0,y1,y2,y3,y4];try rfl) rfl ?_
  exact ⟨⟨_,rfl,⟨_,_,_,_,_,rfl, .inr ⟨_,_,rfl⟩⟩,fun x h=>by cases h;rfl⟩,HR.out.ps,HX6.out,HR.out.fr⟩
theorem let_any {toks:List Tok} (hw:Wf toks) (pb tb cap k a:Nat) (w:World) (ha:a < toks.length) (hP:PS toks pb tb cap a 0 w.heap) :
 Calls Tryz.prog 145 #[.pointer (some ⟨pb,0,none⟩), .int .i64 k] w (PostI toks pb tb cap (letP toks k a).1 (letP toks k a).2 w):=by
 cases h0:isT toks a [108,101,116] with
 | false=>simpa [letP,h0] using let_0 hw pb tb cap k a _ rfl w ha hP h0
 | true =>
 cases h1:nameB (tx toks (a+1)) with
 | false=>simpa [letP,h0,h1] using let_1 hw pb tb cap k a _ rfl w ha hP h0 h1
 | true =>
 cases h2:isT toks (a+2) [58] with
 | false=>simpa [letP,h0,h1,h2] using let_2 hw pb tb cap k a _ rfl w ha hP h0 h1 h2
 | true =>
 cases h3:isTy toks (a+3) with
 | false=>simpa [letP,h0,h1,h2,h3] using let_3 hw pb tb cap k a _ rfl w ha hP h0 h1 h2 h3
 | true =>
 cases h4:isT toks (a+4) [61] with
 | false=>simpa [letP,h0,h1,h2,h3,h4] using let_4 hw pb tb cap k a _ rfl w ha hP h0 h1 h2 h3 h4
 | true =>
 rcases he:exprP toks (a+5) with ⟨b,r⟩
 cases r with
 | none=>simpa [letP,h0,h1,h2,h3,h4,he] using let_5 hw pb tb cap k a _ rfl w ha hP h0 h1 h2 h3 h4 b he
 | some x =>
  obtain ⟨t,y,rfl⟩:=exprP_iface hw he
  cases h6:isT toks b [59] with
  | false=>simpa [letP,h0,h1,h2,h3,h4,he,h6] using let_6 hw pb tb cap k a _ rfl w ha hP h0 h1 h2 h3 h4 b t y he h6
  | true=>simpa [letP,h0,h1,h2,h3,h4,he,h6] using let_7 hw pb tb cap k a _ rfl w ha hP h0 h1 h2 h3 h4 b t y he h6 (hw.next_isT (isT_lt h6) h6)
end Go.Proofs.YthibodlojlkppaaGreatDoor

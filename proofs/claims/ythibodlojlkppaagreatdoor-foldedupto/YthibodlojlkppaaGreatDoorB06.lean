/-
  The parser: item. The parser: what ReadTree holds. A model of the engine while no file changes: slots, memos, what is worked out of what; its calls.
-/
import Derived.Test.YthibodlojlkppaaGreatDoorB05
set_option linter.unusedVariables false
set_option linter.unusedSectionVars false
set_option linter.unusedSimpArgs false
set_option maxRecDepth 100000
set_option maxHeartbeats 40000000

namespace Go.Proofs.YthibodlojlkppaaGreatDoor
open Go.RowKit
def itemP (toks:List Tok) (a:Nat):Nat × Option It :=
 if isT toks a [117,115,101] then useP toks (a+1) else if isT toks a [112,117,98] then letP toks 2 (a+1) else letP toks 1 a
theorem item_use {toks:List Tok} (hw:Wf toks) (pb tb cap a:Nat) (w:World) (ha:a < toks.length) (hP:PS toks pb tb cap a 0 w.heap) (h0:isT toks a [117,115,101]=true) :
 Calls Tryz.prog 124 #[.pointer (some ⟨pb,0,none⟩)] w (PostI toks pb tb cap (useP toks (a+1)).1 (useP toks (a+1)).2 w):=by
 have HT0:Hid (eqB (tx toks a) ⟨#[117,115,101]⟩=true):=hid ((isT_eqB toks a [117,115,101]).symm.trans h0)
 have HX1:=hid (hw.next_isT ha h0)
 have HZ0:=hid (RS.start hP #[.int .i64 0, .int .i64 0, .string ⟨#[]⟩, .string ⟨#[]⟩, .nilIface])
 have HL:=hid hw.le
 have HW:=hid hw
 generalize hsp:useP toks (a+1)=z
 obtain ⟨b,r⟩:=z
 have HSP:=hid hsp
 clear hP hw hsp h0
 go_enter Tryz.func124,Tryz.ntmps124
 go_wp2_with fail
 refine (take_yes toks pb tb cap a 0 _ _ HZ0.out.ps ha HL.out HT0.out).mono ?_
 rintro e w1 ⟨rfl,hP1,hF1⟩
 have HZ:=hid (HZ0.out.call hF1 hP1)
 clear hP1 hF1
 go_wp2_with fail
 refine (use_any HW.out pb tb cap (a+1) _ HX1.out HZ.out.ps).mono ?_
 rw [HSP.out]
 rintro e w3 ⟨⟨v,rfl,⟨i0,i1,s2,s3,x4,rfl,hi⟩,hx⟩,hP3,hb3,hF3⟩
 rcases hi with rfl | ⟨t4,v4,rfl⟩
 · have hz3:=HZ.out.call hF3 hP3
   clear hP3 hF3
   have r0:w3.cell? ⟨w.heap.size,0,none⟩=some (.int .i64 0):=hz3.cell 0
   have rf0:=hz3.f 0
   have r1:w3.cell? ⟨w.heap.size,1,none⟩=some (.int .i64 0):=hz3.cell 1
   have rf1:=hz3.f 1
   have r2:w3.cell? ⟨w.heap.size,2,none⟩=some (.string ⟨#[]⟩):=hz3.cell 2
   have rf2:=hz3.f 2
   have r3:w3.cell? ⟨w.heap.size,3,none⟩=some (.string ⟨#[]⟩):=hz3.cell 3
   have rf3:=hz3.f 3
   have r4:w3.cell? ⟨w.heap.size,4,none⟩=some .nilIface:=hz3.cell 4
   have rf4:=hz3.f 4
   have hR:RS toks pb tb cap w (((((w3.setCell ⟨w.heap.size,0,none⟩ (.int .i64 i0)).setCell ⟨w.heap.size,1,none⟩ (.int .i64 i1)).setCell ⟨w.heap.size,2,none⟩ (.string s2)).setCell ⟨w.heap.size,3,none⟩ (.string s3)).setCell ⟨w.heap.size,4,none⟩ .nilIface) _ #[(.int .i64 i0),(.int .i64 i1),(.string s2),(.string s3), .nilIface]:=hz3.put (.int .i64 i0) (.int .i64 i1) (.string s2) (.string s3) .nilIface
   have y0:(((((w3.setCell ⟨w.heap.size,0,none⟩ (.int .i64 i0)).setCell ⟨w.heap.size,1,none⟩ (.int .i64 i1)).setCell ⟨w.heap.size,2,none⟩ (.string s2)).setCell ⟨w.heap.size,3,none⟩ (.string s3)).setCell ⟨w.heap.size,4,none⟩ .nilIface).cell? ⟨w.heap.size,0,none⟩=some (.int .i64 i0):=hR.cell 0
   have y1:(((((w3.setCell ⟨w.heap.size,0,none⟩ (.int .i64 i0)).setCell ⟨w.heap.size,1,none⟩ (.int .i64 i1)).setCell ⟨w.heap.size,2,none⟩ (.string s2)).setCell ⟨w.heap.size,3,none⟩ (.string s3)).setCell ⟨w.heap.size,4,none⟩ .nilIface).cell? ⟨w.heap.size,1,none⟩=some (.int .i64 i1):=hR.cell 1
   have y2:(((((w3.setCell ⟨w.heap.size,0,none⟩ (.int .i64 i0)).setCell ⟨w.heap.size,1,none⟩ (.int .i64 i1)).setCell ⟨w.heap.size,2,none⟩ (.string s2)).setCell ⟨w.heap.size,3,none⟩ (.string s3)).setCell ⟨w.heap.size,4,none⟩ .nilIface).cell? ⟨w.heap.size,2,none⟩=some (.string s2):=hR.cell 2
   have y3:(((((w3.setCell ⟨w.heap.size,0,none⟩ (.int .i64 i0)).setCell ⟨w.heap.size,1,none⟩ (.int .i64 i1)).setCell ⟨w.heap.size,2,none⟩ (.string s2)).setCell ⟨w.heap.size,3,none⟩ (.string s3)).setCell ⟨w.heap.size,4,none⟩ .nilIface).cell? ⟨w.heap.size,3,none⟩=some (.string s3):=hR.cell 3
   have y4:(((((w3.setCell ⟨w.heap.size,0,none⟩ (.int .i64 i0)).setCell ⟨w.heap.size,1,none⟩ (.int .i64 i1)).setCell ⟨w.heap.size,2,none⟩ (.string s2)).setCell ⟨w.heap.size,3,none⟩ (.string s3)).setCell ⟨w.heap.size,4,none⟩ .nilIface).cell? ⟨w.heap.size,4,none⟩=some .nilIface:=hR.cell 4
   have HR:=hid hR
   have HX:=hid hx
   clear hR hz3 hx
   go_wp2
   refine bodyPost_ret (v := .tuple #[.agg #[(.int .i64 i0),(.int .i64 i1),(.string s2),(.string s3), .nilIface], .bool r.isSome]) (by simp [results,Tryz.results124,go_sem,y0,y1,y2,y3,y4];try rfl) rfl ?_
   exact ⟨⟨_,rfl,⟨_,_,_,_,_,rfl, .inl rfl⟩,HX.out⟩,HR.out.ps,hb3,HR.out.fr⟩
 · have hz3:=HZ.out.call hF3 hP3
   clear hP3 hF3
   have r0:w3.cell? ⟨w.heap.size,0,none⟩=some (.int .i64 0):=hz3.cell 0
   have rf0:=hz3.f 0
   have r1:w3.cell? ⟨w.heap.size,1,none⟩=some (.int .i64 0):=hz3.cell 1
   have rf1:=hz3.f 1
   have r2:w3.cell? ⟨w.heap.size,2,none⟩=some (.string ⟨#[]⟩):=hz3.cell 2
   have rf2:=hz3.f 2
   have r3:w3.cell? ⟨w.heap.size,3,none⟩=some (.string ⟨#[]⟩):=hz3.cell 3
   have rf3:=hz3.f 3
   have r4:w3.cell? ⟨w.heap.size,4,none⟩=some .nilIface:=hz3.cell 4
   have rf4:=hz3.f 4
   have hR:RS toks pb tb cap w (((((w3.setCell ⟨w.heap.size,0,none⟩ (.int .i64 i0)).setCell ⟨w.heap.size,1,none⟩ (.int .i64 i1)).setCell ⟨w.heap.size,2,none⟩ (.string s2)).setCell ⟨w.heap.size,3,none⟩ (.string s3)).setCell ⟨w.heap.size,4,none⟩ (.iface t4 v4)) _ #[(.int .i64 i0),(.int .i64 i1),(.string s2),(.string s3),(.iface t4 v4)]:=hz3.put (.int .i64 i0) (.int .i64 i1) (.string s2) (.string s3) (.iface t4 v4)
   have y0:(((((w3.setCell ⟨w.heap.size,0,none⟩ (.int .i64 i0)).setCell ⟨w.heap.size,1,none⟩ (.int .i64 i1)).setCell ⟨w.heap.size,2,none⟩ (.string s2)).setCell ⟨w.heap.size,3,none⟩ (.string s3)).setCell ⟨w.heap.size,4,none⟩ (.iface t4 v4)).cell? ⟨w.heap.size,0,none⟩=some (.int .i64 i0):=hR.cell 0
   have y1:(((((w3.setCell ⟨w.heap.size,0,none⟩ (.int .i64 i0)).setCell ⟨w.heap.size,1,none⟩ (.int .i64 i1)).setCell ⟨w.heap.size,2,none⟩ (.string s2)).setCell ⟨w.heap.size,3,none⟩ (.string s3)).setCell ⟨w.heap.size,4,none⟩ (.iface t4 v4)).cell? ⟨w.heap.size,1,none⟩=some (.int .i64 i1):=hR.cell 1
   have y2:(((((w3.setCell ⟨w.heap.size,0,none⟩ (.int .i64 i0)).setCell ⟨w.heap.size,1,none⟩ (.int .i64 i1)).setCell ⟨w.heap.size,2,none⟩ (.string s2)).setCell ⟨w.heap.size,3,none⟩ (.string s3)).setCell ⟨w.heap.size,4,none⟩ (.iface t4 v4)).cell? ⟨w.heap.size,2,none⟩=some (.string s2):=hR.cell 2
   have y3:(((((w3.setCell ⟨w.heap.size,0,none⟩ (.int .i64 i0)).setCell ⟨w.heap.size,1,none⟩ (.int .i64 i1)).setCell ⟨w.heap.size,2,none⟩ (.string s2)).setCell ⟨w.heap.size,3,none⟩ (.string s3)).setCell ⟨w.heap.size,4,none⟩ (.iface t4 v4)).cell? ⟨w.heap.size,3,none⟩=some (.string s3):=hR.cell 3
   have y4:(((((w3.setCell ⟨w.heap.size,0,none⟩ (.int .i64 i0)).setCell ⟨w.heap.size,1,none⟩ (.int .i64 i1)).setCell ⟨w.heap.size,2,none⟩ (.string s2)).setCell ⟨w.heap.size,3,none⟩ (.string s3)).setCell ⟨w.heap.size,4,none⟩ (.iface t4 v4)).cell? ⟨w.heap.size,4,none⟩=some (.iface t4 v4):=hR.cell 4
   have HR:=hid hR
   have HX:=hid hx
   clear hR hz3 hx
   go_wp2
   refine bodyPost_ret (v := .tuple #[.agg #[(.int .i64 i0),(.int .i64 i1),(.string s2),(.string s3),(.iface t4 v4)], .bool r.isSome]) (by simp [results,Tryz.results124,go_sem,y0,y1,y2,y3,y4];try rfl) rfl ?_
   exact ⟨⟨_,rfl,⟨_,_,_,_,_,rfl, .inr ⟨_,_,rfl⟩⟩,HX.out⟩,HR.out.ps,hb3,HR.out.fr⟩
theorem item_pub {toks:List Tok} (hw:Wf toks) (pb tb cap a:Nat) (w:World) (ha:a < toks.length) (hP:PS toks pb tb cap a 0 w.heap) (h0:isT toks a [117,115,101]=false∧isT toks a [112,117,98]=true) :
 Calls Tryz.prog 124 #[.pointer (some ⟨pb,0,none⟩)] w (PostI toks pb tb cap (letP toks 2 (a+1)).1 (letP toks 2 (a+1)).2 w):=by
 have HT0:Hid (eqB (tx toks a) ⟨#[117,115,101]⟩=false):=hid ((isT_eqB toks a [117,115,101]).symm.trans h0.1)
 have HT1:Hid (eqB (tx toks a) ⟨#[112,117,98]⟩=true):=hid ((isT_eqB toks a [112,117,98]).symm.trans h0.2)
 have HX1:=hid (hw.next_isT ha h0.2)
 have HZ0:=hid (RS.start hP #[.int .i64 0, .int .i64 0, .string ⟨#[]⟩, .string ⟨#[]⟩, .nilIface])
 have HL:=hid hw.le
 have HW:=hid hw
 generalize hsp:letP toks 2 (a+1)=z
 obtain ⟨b,r⟩:=z
 have HSP:=hid hsp
 clear hP hw hsp h0
 go_enter Tryz.func124,Tryz.ntmps124
 go_wp2_with fail
 refine (take_no toks pb tb cap a 0 _ _ HZ0.out.ps ha HT0.out).mono ?_
 rintro e w1 ⟨rfl,hP1,hF1⟩
 have HZ1:=hid (HZ0.out.call hF1 hP1)
 clear hP1 hF1
 go_wp2_with fail
 refine (take_yes toks pb tb cap a 0 _ _ HZ1.out.ps ha HL.out HT1.out).mono ?_
 rintro e w2 ⟨rfl,hP1,hF1⟩
 have HZ:=hid (HZ1.out.call hF1 hP1)
 clear hP1 hF1
 go_wp2_with fail
 refine (let_any HW.out pb tb cap 2 (a+1) _ HX1.out HZ.out.ps).mono ?_
 rw [HSP.out]
 rintro e w3 ⟨⟨v,rfl,⟨i0,i1,s2,s3,x4,rfl,hi⟩,hx⟩,hP3,hb3,hF3⟩
 rcases hi with rfl | ⟨t4,v4,rfl⟩
 · have hz3:=HZ.out.call hF3 hP3
   clear hP3 hF3
   have r0:w3.cell? ⟨w.heap.size,0,none⟩=some (.int .i64 0):=hz3.cell 0
   have rf0:=hz3.f 0
   have r1:w3.cell? ⟨w.heap.size,1,none⟩=some (.int .i64 0):=hz3.cell 1
   have rf1:=hz3.f 1
   have r2:w3.cell? ⟨w.heap.size,2,none⟩=some (.string ⟨#[]⟩):=hz3.cell 2
   have rf2:=hz3.f 2
   have r3:w3.cell? ⟨w.heap.size,3,none⟩=some (.string ⟨#[]⟩):=hz3.cell 3
   have rf3:=hz3.f 3
   have r4:w3.cell? ⟨w.heap.size,4,none⟩=some .nilIface:=hz3.cell 4
   have rf4:=hz3.f 4
   have hR:RS toks pb tb cap w (((((w3.setCell ⟨w.heap.size,0,none⟩ (.int .i64 i0)).setCell ⟨w.heap.size,1,none⟩ (.int .i64 i1)).setCell ⟨w.heap.size,2,none⟩ (.string s2)).setCell ⟨w.heap.size,3,none⟩ (.string s3)).setCell ⟨w.heap.size,4,none⟩ .nilIface) _ #[(.int .i64 i0),(.int .i64 i1),(.string s2),(.string s3), .nilIface]:=hz3.put (.int .i64 i0) (.int .i64 i1) (.string s2) (.string s3) .nilIface
   have y0:(((((w3.setCell ⟨w.heap.size,0,none⟩ (.int .i64 i0)).setCell ⟨w.heap.size,1,none⟩ (.int .i64 i1)).setCell ⟨w.heap.size,2,none⟩ (.string s2)).setCell ⟨w.heap.size,3,none⟩ (.string s3)).setCell ⟨w.heap.size,4,none⟩ .nilIface).cell? ⟨w.heap.size,0,none⟩=some (.int .i64 i0):=hR.cell 0
   have y1:(((((w3.setCell ⟨w.heap.size,0,none⟩ (.int .i64 i0)).setCell ⟨w.heap.size,1,none⟩ (.int .i64 i1)).setCell ⟨w.heap.size,2,none⟩ (.string s2)).setCell ⟨w.heap.size,3,none⟩ (.string s3)).setCell ⟨w.heap.size,4,none⟩ .nilIface).cell? ⟨w.heap.size,1,none⟩=some (.int .i64 i1):=hR.cell 1
   have y2:(((((w3.setCell ⟨w.heap.size,0,none⟩ (.int .i64 i0)).setCell ⟨w.heap.size,1,none⟩ (.int .i64 i1)).setCell ⟨w.heap.size,2,none⟩ (.string s2)).setCell ⟨w.heap.size,3,none⟩ (.string s3)).setCell ⟨w.heap.size,4,none⟩ .nilIface).cell? ⟨w.heap.size,2,none⟩=some (.string s2):=hR.cell 2
   have y3:(((((w3.setCell ⟨w.heap.size,0,none⟩ (.int .i64 i0)).setCell ⟨w.heap.size,1,none⟩ (.int .i64 i1)).setCell ⟨w.heap.size,2,none⟩ (.string s2)).setCell ⟨w.heap.size,3,none⟩ (.string s3)).setCell ⟨w.heap.size,4,none⟩ .nilIface).cell? ⟨w.heap.size,3,none⟩=some (.string s3):=hR.cell 3
   have y4:(((((w3.setCell ⟨w.heap.size,0,none⟩ (.int .i64 i0)).setCell ⟨w.heap.size,1,none⟩ (.int .i64 i1)).setCell ⟨w.heap.size,2,none⟩ (.string s2)).setCell ⟨w.heap.size,3,none⟩ (.string s3)).setCell ⟨w.heap.size,4,none⟩ .nilIface).cell? ⟨w.heap.size,4,none⟩=some .nilIface:=hR.cell 4
   have HR:=hid hR
   have HX:=hid hx
   clear hR hz3 hx
   go_wp2
   refine bodyPost_ret (v := .tuple #[.agg #[(.int .i64 i0),(.int .i64 i1),(.string s2),(.string s3), .nilIface], .bool r.isSome]) (by simp [results,Tryz.results124,go_sem,y0,y1,y2,y3,y4];try rfl) rfl ?_
   exact ⟨⟨_,rfl,⟨_,_,_,_,_,rfl, .inl rfl⟩,HX.out⟩,HR.out.ps,hb3,HR.out.fr⟩
 · have hz3:=HZ.out.call hF3 hP3
   clear hP3 hF3
   have r0:w3.cell? ⟨w.heap.size,0,none⟩=some (.int .i64 0):=hz3.cell 0
   have rf0:=hz3.f 0
   have r1:w3.cell? ⟨w.heap.size,1,none⟩=some (.int .i64 0):=hz3.cell 1
   have rf1:=hz3.f 1
   have r2:w3.cell? ⟨w.heap.size,2,none⟩=some (.string ⟨#[]⟩):=hz3.cell 2
   have rf2:=hz3.f 2
   have r3:w3.cell? ⟨w.heap.size,3,none⟩=some (.string ⟨#[]⟩):=hz3.cell 3
   have rf3:=hz3.f 3
   have r4:w3.cell? ⟨w.heap.size,4,none⟩=some .nilIface:=hz3.cell 4
   have rf4:=hz3.f 4
   have hR:RS toks pb tb cap w (((((w3.setCell ⟨w.heap.size,0,none⟩ (.int .i64 i0)).setCell ⟨w.heap.size,1,none⟩ (.int .i64 i1)).setCell ⟨w.heap.size,2,none⟩ (.string s2)).setCell ⟨w.heap.size,3,none⟩ (.string s3)).setCell ⟨w.heap.size,4,none⟩ (.iface t4 v4)) _ #[(.int .i64 i0),(.int .i64 i1),(.string s2),(.string s3),(.iface t4 v4)]:=hz3.put (.int .i64 i0) (.int .i64 i1) (.string s2) (.string s3) (.iface t4 v4)
   have y0:(((((w3.setCell ⟨w.heap.size,0,none⟩ (.int .i64 i0)).setCell ⟨w.heap.size,1,none⟩ (.int .i64 i1)).setCell ⟨w.heap.size,2,none⟩ (.string s2)).setCell ⟨w.heap.size,3,none⟩ (.string s3)).setCell ⟨w.heap.size,4,none⟩ (.iface t4 v4)).cell? ⟨w.heap.size,0,none⟩=some (.int .i64 i0):=hR.cell 0
   have y1:(((((w3.setCell ⟨w.heap.size,0,none⟩ (.int .i64 i0)).setCell ⟨w.heap.size,1,none⟩ (.int .i64 i1)).setCell ⟨w.heap.size,2,none⟩ (.string s2)).setCell ⟨w.heap.size,3,none⟩ (.string s3)).setCell ⟨w.heap.size,4,none⟩ (.iface t4 v4)).cell? ⟨w.heap.size,1,none⟩=some (.int .i64 i1):=hR.cell 1
   have y2:(((((w3.setCell ⟨w.heap.size,0,none⟩ (.int .i64 i0)).setCell ⟨w.heap.size,1,none⟩ (.int .i64 i1)).setCell ⟨w.heap.size,2,none⟩ (.string s2)).setCell ⟨w.heap.size,3,none⟩ (.string s3)).setCell ⟨w.heap.size,4,none⟩ (.iface t4 v4)).cell? ⟨w.heap.size,2,none⟩=some (.string s2):=hR.cell 2
   have y3:(((((w3.setCell ⟨w.heap.size,0,none⟩ (.int .i64 i0)).setCell ⟨w.heap.size,1,none⟩ (.int .i64 i1)).setCell ⟨w.heap.size,2,none⟩ (.string s2)).setCell ⟨w.heap.size,3,none⟩ (.string s3)).setCell ⟨w.heap.size,4,none⟩ (.iface t4 v4)).cell? ⟨w.heap.size,3,none⟩=some (.string s3):=hR.cell 3
   have y4:(((((w3.setCell ⟨w.heap.size,0,none⟩ (.int .i64 i0)).setCell ⟨w.heap.size,1,none⟩ (.int .i64 i1)).setCell ⟨w.heap.size,2,none⟩ (.string s2)).setCell ⟨w.heap.size,3,none⟩ (.string s3)).setCell ⟨w.heap.size,4,none⟩ (.iface t4 v4)).cell? ⟨w.heap.size,4,none⟩=some (.iface t4 v4):=hR.cell 4
   have HR:=hid hR
   have HX:=hid hx
   clear hR hz3 hx
   go_wp2
   refine bodyPost_ret (v := .tuple #[.agg #[(.int .i64 i0),(.int .i64 i1),(.string s2),(.string s3),(.iface t4 v4)], .bool r.isSome]) (by simp [results,Tryz.results124,go_sem,y0,y1,y2,y3,y4];try rfl) rfl ?_
   exact ⟨⟨_,rfl,⟨_,_,_,_,_,rfl, .inr ⟨_,_,rfl⟩⟩,HX.out⟩,HR.out.ps,hb3,HR.out.fr⟩
theorem item_let {toks:List Tok} (hw:Wf toks) (pb tb cap a:Nat) (w:World) (ha:a < toks.length) (hP:PS toks pb tb cap a 0 w.heap) (h0:isT toks a [117,115,101]=false∧isT toks a [112,117,98]=false) :
 Calls Tryz.prog 124 #[.pointer (some ⟨pb,0,none⟩)] w (PostI toks pb tb cap (letP toks 1 a).1 (letP toks 1 a).2 w):=by
 have HT0:Hid (eqB (tx toks a) ⟨#[117,115,101]⟩=false):=hid ((isT_eqB toks a [117,115,101]).symm.trans h0.1)
 have HT1:Hid (eqB (tx toks a) ⟨#[112,117,98]⟩=false):=hid ((isT_eqB toks a [112,117,98]).symm.trans h0.2)
 have HZ0:=hid (RS.start hP #[.int .i64 0, .int .i64 0, .string ⟨#[]⟩, .string ⟨#[]⟩, .nilIface])
 have HL:=hid hw.le
 have HW:=hid hw
 generalize hsp:letP toks 1 a=z
 obtain ⟨b,r⟩:=z
 have HSP:=hid hsp
 clear hP hw hsp h0
 go_enter Tryz.func124,Tryz.ntmps124
 go_wp2_with fail
 refine (take_no toks pb tb cap a 0 _ _ HZ0.out.ps ha HT0.out).mono ?_
 rintro e w1 ⟨rfl,hP1,hF1⟩
 have HZ1:=hid (HZ0.out.call hF1 hP1)
 clear hP1 hF1
 go_wp2_with fail
 refine (take_no toks pb tb cap a 0 _ _ HZ1.out.ps ha HT1.out).mono ?_
 rintro e w2 ⟨rfl,hP1,hF1⟩
 have HZ:=hid (HZ1.out.call hF1 hP1)
 clear hP1 hF1
 go_wp2_with fail
 refine (let_any HW.out pb tb cap 1 a _ ha HZ.out.ps).mono ?_
 rw [HSP.out]
 rintro e w3 ⟨⟨v,rfl,⟨i0,i1,s2,s3,x4,rfl,hi⟩,hx⟩,hP3,hb3,hF3⟩
 rcases hi with rfl | ⟨t4,v4,rfl⟩
 · have hz3:=HZ.out.call hF3 hP3
   clear hP3 hF3
   have r0:w3.cell? ⟨w.heap.size,0,none⟩=some (.int .i64 0):=hz3.cell 0
   have rf0:=hz3.f 0
   have r1:w3.cell? ⟨w.heap.size,1,none⟩=some (.int .i64 0):=hz3.cell 1
   have rf1:=hz3.f 1
   have r2:w3.cell? ⟨w.heap.size,2,none⟩=some (.string ⟨#[]⟩):=hz3.cell 2
   have rf2:=hz3.f 2
   have r3:w3.cell? ⟨w.heap.size,3,none⟩=some (.string ⟨#[]⟩):=hz3.cell 3
   have rf3:=hz3.f 3
   have r4:w3.cell? ⟨w.heap.size,4,none⟩=some .nilIface:=hz3.cell 4
   have rf4:=hz3.f 4
   have hR:RS toks pb tb cap w (((((w3.setCell ⟨w.heap.size,0,none⟩ (.int .i64 i0)).setCell ⟨w.heap.size,1,none⟩ (.int .i64 i1)).setCell ⟨w.heap.size,2,none⟩ (.string s2)).setCell ⟨w.heap.size,3,none⟩ (.string s3)).setCell ⟨w.heap.size,4,none⟩ .nilIface) _ #[(.int .i64 i0),(.int .i64 i1),(.string s2),(.string s3), .nilIface]:=hz3.put (.int .i64 i0) (.int .i64 i1) (.string s2) (.string s3) .nilIface
   have y0:(((((w3.setCell ⟨w.heap.size,0,none⟩ (.int .i64 i0)).setCell ⟨w.heap.size,1,none⟩ (.int .i64 i1)).setCell ⟨w.heap.size,2,none⟩ (.string s2)).setCell ⟨w.heap.size,3,none⟩ (.string s3)).setCell ⟨w.heap.size,4,none⟩ .nilIface).cell? ⟨w.heap.size,0,none⟩=some (.int .i64 i0):=hR.cell 0
   have y1:(((((w3.setCell ⟨w.heap.size,0,none⟩ (.int .i64 i0)).setCell ⟨w.heap.size,1,none⟩ (.int .i64 i1)).setCell ⟨w.heap.size,2,none⟩ (.string s2)).setCell ⟨w.heap.size,3,none⟩ (.string s3)).setCell ⟨w.heap.size,4,none⟩ .nilIface).cell? ⟨w.heap.size,1,none⟩=some (.int .i64 i1):=hR.cell 1
   have y2:(((((w3.setCell ⟨w.heap.size,0,none⟩ (.int .i64 i0)).setCell ⟨w.heap.size,1,none⟩ (.int .i64 i1)).setCell ⟨w.heap.size,2,none⟩ (.string s2)).setCell ⟨w.heap.size,3,none⟩ (.string s3)).setCell ⟨w.heap.size,4,none⟩ .nilIface).cell? ⟨w.heap.size,2,none⟩=some (.string s2):=hR.cell 2
   have y3:(((((w3.setCell ⟨w.heap.size,0,none⟩ (.int .i64 i0)).setCell ⟨w.heap.size,1,none⟩ (.int .i64 i1)).setCell ⟨w.heap.size,2,none⟩ (.string s2)).setCell ⟨w.heap.size,3,none⟩ (.string s3)).setCell ⟨w.heap.size,4,none⟩ .nilIface).cell? ⟨w.heap.size,3,none⟩=some (.string s3):=hR.cell 3
   have y4:(((((w3.setCell ⟨w.heap.size,0,none⟩ (.int .i64 i0)).setCell ⟨w.heap.size,1,none⟩ (.int .i64 i1)).setCell ⟨w.heap.size,2,none⟩ (.string s2)).setCell ⟨w.heap.size,3,none⟩ (.string s3)).setCell ⟨w.heap.size,4,none⟩ .nilIface).cell? ⟨w.heap.size,4,none⟩=some .nilIface:=hR.cell 4
   have HR:=hid hR
   have HX:=hid hx
   clear hR hz3 hx
   go_wp2
   refine bodyPost_ret (v := .tuple #[.agg #[(.int .i64 i0),(.int .i64 i1),(.string s2),(.string s3), .nilIface], .bool r.isSome]) (by simp [results,Tryz.results124,go_sem,y0,y1,y2,y3,y4];try rfl) rfl ?_
   exact ⟨⟨_,rfl,⟨_,_,_,_,_,rfl, .inl rfl⟩,HX.out⟩,HR.out.ps,hb3,HR.out.fr⟩
 · have hz3:=HZ.out.call hF3 hP3
   clear hP3 hF3
   have r0:w3.cell? ⟨w.heap.size,0,none⟩=some (.int .i64 0):=hz3.cell 0
   have rf0:=hz3.f 0
   have r1:w3.cell? ⟨w.heap.size,1,none⟩=some (.int .i64 0):=hz3.cell 1
   have rf1:=hz3.f 1
   have r2:w3.cell? ⟨w.heap.size,2,none⟩=some (.string ⟨#[]⟩):=hz3.cell 2
   have rf2:=hz3.f 2
   have r3:w3.cell? ⟨w.heap.size,3,none⟩=some (.string ⟨#[]⟩):=hz3.cell 3
   have rf3:=hz3.f 3
   have r4:w3.cell? ⟨w.heap.size,4,none⟩=some .nilIface:=hz3.cell 4
   have rf4:=hz3.f 4
   have hR:RS toks pb tb cap w (((((w3.setCell ⟨w.heap.size,0,none⟩ (.int .i64 i0)).setCell ⟨w.heap.size,1,none⟩ (.int .i64 i1)).setCell ⟨w.heap.size,2,none⟩ (.string s2)).setCell ⟨w.heap.size,3,none⟩ (.string s3)).setCell ⟨w.heap.size,4,none⟩ (.iface t4 v4)) _ #[(.int .i64 i0),(.int .i64 i1),(.string s2),(.string s3),(.iface t4 v4)]:=hz3.put (.int .i64 i0) (.int .i64 i1) (.string s2) (.string s3) (.iface t4 v4)
   have y0:(((((w3.setCell ⟨w.heap.size,0,none⟩ (.int .i64 i0)).setCell ⟨w.heap.size,1,none⟩ (.int .i64 i1)).setCell ⟨w.heap.size,2,none⟩ (.string s2)).setCell ⟨w.heap.size,3,none⟩ (.string s3)).setCell ⟨w.heap.size,4,none⟩ (.iface t4 v4)).cell? ⟨w.heap.size,0,none⟩=some (.int .i64 i0):=hR.cell 0
   have y1:(((((w3.setCell ⟨w.heap.size,0,none⟩ (.int .i64 i0)).setCell ⟨w.heap.size,1,none⟩ (.int .i64 i1)).setCell ⟨w.heap.size,2,none⟩ (.string s2)).setCell ⟨w.heap.size,3,none⟩ (.string s3)).setCell ⟨w.heap.size,4,none⟩ (.iface t4 v4)).cell? ⟨w.heap.size,1,none⟩=some (.int .i64 i1):=hR.cell 1
   have y2:(((((w3.setCell ⟨w.heap.size,0,none⟩ (.int .i64 i0)).setCell ⟨w.heap.size,1,none⟩ (.int .i64 i1)).setCell ⟨w.heap.size,2,none⟩ (.string s2)).setCell ⟨w.heap.size,3,none⟩ (.string s3)).setCell ⟨w.heap.size,4,none⟩ (.iface t4 v4)).cell? ⟨w.heap.size,2,none⟩=some (.string s2):=hR.cell 2
   have y3:(((((w3.setCell ⟨w.heap.size,0,none⟩ (.int .i64 i0)).setCell ⟨w.heap.size,1,none⟩ (.int .i64 i1)).setCell ⟨w.heap.size,2,none⟩ (.string s2)).setCell ⟨w.heap.size,3,none⟩ (.string s3)).setCell ⟨w.heap.size,4,none⟩ (.iface t4 v4)).cell? ⟨w.heap.size,3,none⟩=some (.string s3):=hR.cell 3
   have y4:(((((w3.setCell ⟨w.heap.size,0,none⟩ (.int .i64 i0)).setCell ⟨w.heap.size,1,none⟩ (.int .i64 i1)).setCell ⟨w.heap.size,2,none⟩ (.string s2)).setCell ⟨w.heap.size,3,none⟩ (.string s3)).setCell ⟨w.heap.size,4,none⟩ (.iface t4 v4)).cell? ⟨w.heap.size,4,none⟩=some (.iface t4 v4):=hR.cell 4
   have HR:=hid hR
   have HX:=hid hx
   clear hR hz3 hx
   go_wp2
   refine bodyPost_ret (v := .tuple #[.agg #[(.int .i64 i0),(.int .i64 i1),(.string s2),(.string s3),(.iface t4 v4)], .bool r.isSome]) (by simp [results,Tryz.results124,go_sem,y0,y1,y2,y3,y4];try rfl) rfl ?_
   exact ⟨⟨_,rfl,⟨_,_,_,_,_,rfl, .inr ⟨_,_,rfl⟩⟩,HX.out⟩,HR.out.ps,hb3,HR.out.fr⟩
theorem item_any {toks:List Tok} (hw:Wf toks) (pb tb cap a:Nat) (w:World) (ha:a < toks.length) (hP:PS toks pb tb cap a 0 w.heap) :
 Calls Tryz.prog 124 #[.pointer (some ⟨pb,0,none⟩)] w (PostI toks pb tb cap (itemP toks a).1 (itemP toks a).2 w):=by
 cases h0:isT toks a [117,115,101] with
 | true=>simpa [itemP,h0] using item_use hw pb tb cap a w ha hP h0
 | false =>
  cases h1:isT toks a [112,117,98] with
  | true=>simpa [itemP,h0,h1] using item_pub hw pb tb cap a w ha hP ⟨h0,h1⟩
  | false=>simpa [itemP,h0,h1] using item_let hw pb tb cap a w ha hP ⟨h0,h1⟩
def treeP (toks:List Tok):Nat→Nat→List It × Option Nat
 | 0,_=>([],none)
 | f+1,a=>if eqB (tx toks a) ⟨#[]⟩ then ([],none) else
  match itemP toks a with
  | (b,none)=>([],some b)
  | (b,some i)=>(i :: (treeP toks f b).1,(treeP toks f b).2)
def treeAll (toks:List Tok):List It × Option Nat:=treeP toks toks.length 0
def faultV:Option Nat→Value
 | none => .int .i64 (-1)
 | some b => .int .i64 b
theorem letP_ge {toks:List Tok} (hw:Wf toks) {k a b:Nat} {i:It} (h:letP toks k a=(b,some i)):a < b:=by
 unfold letP at h
 split at h
 · split at h
   · split at h
     · split at h
       · split at h
         · split at h
           · cases h
           · rename_i c x he
             have:=exprP_ge hw (a+5)
             rw [he] at this
             split at h
             · cases h;simp at this;omega
             · cases h
         · cases h
       · cases h
     · cases h
   · cases h
 · cases h
theorem useP_ge {toks:List Tok} {a b:Nat} {i:It} (h:useP toks a=(b,some i)):a < b:=by
 unfold useP at h
 split at h
 · split at h
   · cases h;omega
   · cases h
 · cases h
theorem itemP_ge {toks:List Tok} (hw:Wf toks) {a b:Nat} {i:It} (h:itemP toks a=(b,some i)):a < b:=by
 unfold itemP at h
 split at h
 · have:=useP_ge h;omega
 · split at h
   · have:=letP_ge hw h;omega
   · exact letP_ge hw h
theorem own_block {w w':World} {B:Nat} {e:TypeId} {size:Nat} {v:Value} {n:Nat} {xs:List Value} (h:w.ownsRow B e size v n xs) (hk:∀ g,B≤g→g < w.heap.size→w'.heap[g]? = w.heap[g]?):w'.ownsRow B e size v n xs:=by
 obtain ⟨hl,h | ⟨g,cap,cur,hv,hb,hg,h1,h2,h3,h4⟩⟩:=h
 · exact ⟨hl, .inl h⟩
 · exact ⟨hl, .inr ⟨g,cap,cur,hv,hb,(hk g hb (heap_lt hg)).trans hg,h1,h2,h3,h4⟩⟩
structure TS (toks:List Tok) (tb cap:Nat) (w wr:World) (a:Nat) (v:Value) (n:Nat) (xs:List Value) (fault:Int):Prop where
 tl:tb < w.heap.size
 ps:PS toks (w.heap.size+1) tb cap a 0 wr.heap
 bl:Below w.heap.size w wr
 rb:wr.heap[w.heap.size]? = some (.cells #[.slice none 0 0, .int .i64 0] 87)
 tr:wr.heap[w.heap.size+1+1]? = some (.cells #[v, .int .i64 fault] 87)
 own:wr.ownsRow (w.heap.size+3) 137 5 v n xs
theorem TS.start {toks:List Tok} {tb cap:Nat} {w:World} (ht:∃ cur,w.heap[tb]? = some (.cells cur 121)∧cur.toList.take (3 * toks.length)=tokCells toks) :
 TS toks tb cap w (((w.alloc (.cells #[.slice none 0 0, .int .i64 0] 87)).alloc (.cells #[.slice (some ⟨tb,0,none⟩) toks.length cap, .int .i64 0, .int .i64 0] 224)).alloc (.cells #[.slice none 0 0, .int .i64 (-1)] 87)) 0 (.slice none 0 0) 0 [] (-1):=by
 obtain ⟨cur,hc,hcc⟩:=ht
 have hlt:=heap_lt hc
 have e1:(w.alloc (.cells #[.slice none 0 0, .int .i64 0] 87)).heap.size=w.heap.size+1:=by simp
 have e2:((w.alloc (.cells #[.slice none 0 0, .int .i64 0] 87)).alloc (.cells #[.slice (some ⟨tb,0,none⟩) toks.length cap, .int .i64 0, .int .i64 0] 224)).heap.size=w.heap.size+1+1:=by simp
 refine ⟨hlt,⟨by omega,?_,cur,old_heap _ (old_heap _ (old_heap _ hc)),hcc⟩,((((Below.refl _ _).alloc (Nat.le_refl _) _).alloc (by omega) _).alloc (by omega) _),old_heap _ (old_heap _ (new_heap _ _)),?_,World.ownsRow_nil _ _ _ _⟩
 · refine old_heap _ ?_
   have:=new_heap (w.alloc (.cells #[.slice none 0 0, .int .i64 0] 87)) (.cells #[.slice (some ⟨tb,0,none⟩) toks.length cap, .int .i64 0, .int .i64 0] 224)
   rw [e1] at this
   exact this
 · have:=new_heap ((w.alloc (.cells #[.slice none 0 0, .int .i64 0] 87)).alloc (.cells #[.slice (some ⟨tb,0,none⟩) toks.length cap, .int .i64 0, .int .i64 0] 224)) (.cells #[.slice none 0 0, .int .i64 (-1)] 87)
   rw [e2] at this
   exact this
section
variable {toks:List Tok} {tb cap:Nat} {w wr:World} {a:Nat} {v:Value} {n:Nat} {xs:List Value} {fault:Int}
theorem TS.call (h:TS toks tb cap w wr a v n xs fault) {w':World} {b:Nat} (hf:Fr [w.heap.size+1] wr w') (hp:PS toks (w.heap.size+1) tb cap b 0 w'.heap):TS toks tb cap w w' b v n xs fault :=
 ⟨h.tl,hp,⟨hf.os.trans h.bl.os,hf.tape.trans h.bl.tape,hf.output.trans h.bl.output,Nat.le_trans h.bl.size hf.size,fun k hk=>(hf.block k (by have:=h.bl.size;omega) (by simp;omega)).trans (h.bl.block k hk)⟩,
  hf.heap h.rb (by simp),hf.heap h.tr (by simp),own_block h.own fun g hg hlt=>hf.block g hlt (by simp;omega)⟩
theorem TS.alloc (h:TS toks tb cap w wr a v n xs fault) (o:Obj):TS toks tb cap w (wr.alloc o) a v n xs fault :=
 ⟨h.tl,h.ps.below ((Below.refl _ _).alloc (Nat.le_refl _) _),h.bl.alloc h.bl.size _,old_heap _ h.rb,old_heap _ h.tr,h.own.alloc _⟩
theorem TS.faulty (h:TS toks tb cap w wr a v n xs fault) (z:Int):TS toks tb cap w (wr.setCell ⟨w.heap.size+1+1,1,none⟩ (.int .i64 z)) a v n xs z :=
 ⟨h.tl,h.ps.other (by omega) (by have:=h.tl;omega) _,h.bl.setCell (p:=⟨w.heap.size+1+1,1,none⟩) (by show w.heap.size≤w.heap.size+1+1;omega) _,(heap_setCell_ne (by omega) _).trans h.rb,heap_setCell_lit (i:=1) h.tr _,own_block h.own fun g hg hlt=>heap_setCell_ne (by omega) _⟩
theorem TS.put (h:TS toks tb cap w wr a v n xs fault) {w':World} {v':Value} {m:Nat} {ys:List Value} (hown:w'.ownsRow (w.heap.size+3) 137 5 v' m ys) (hg:wr.grownBy w' v.ownBlock) :
 TS toks tb cap w (w'.setCell ⟨w.heap.size+1+1,0,none⟩ v') a v' m ys fault:=by
 have hlt:=fun k hk=>(h.own.lt k hk).1
 have hsz:=heap_lt h.tr
 have hb:∀ k,k < w.heap.size+3→w'.heap[k]? = wr.heap[k]?:=fun k hk=>hg.block k (by omega) fun e=>by have:=hlt k e.symm;omega
 obtain ⟨cur,hc,hcc⟩:=h.ps.t
 have hb2:Below w.heap.size w w':=h.bl.grown hg h.bl.size (fun k hk=>by have:=hlt k hk;omega)
 refine ⟨h.tl,?_,hb2.setCell (p:=⟨w.heap.size+1+1,0,none⟩) (by show w.heap.size≤w.heap.size+1+1;omega) _,(heap_setCell_ne (by omega) _).trans ((hb _ (by omega)).trans h.rb),heap_setCell_lit (i:=0) ((hb _ (by omega)).trans h.tr) _,own_block hown fun g hg hlt=>heap_setCell_ne (by omega) _⟩
 exact PS.other ⟨h.ps.ne,(hb _ (by omega)).trans h.ps.p,cur,(hb _ (by have:=h.tl;omega)).trans hc,hcc⟩ (by omega) (by have:=h.tl;omega) _
theorem TS.shape (h:TS toks tb cap w wr a v n xs fault):∃ ao m c,v = .slice ao m c:=by
 obtain ⟨_,⟨h,_⟩ | ⟨g,c,_,h,_⟩⟩:=h.own
 · exact ⟨none,0,0,h⟩
 · exact ⟨_,_,_,h⟩
theorem TS.setR (h:TS toks tb cap w wr a v n xs fault) (u z:Value):((wr.setCell ⟨w.heap.size,0,none⟩ u).setCell ⟨w.heap.size,1,none⟩ z).heap[w.heap.size]? = some (.cells #[u,z] 87) ∧
 ((wr.setCell ⟨w.heap.size,0,none⟩ u).setCell ⟨w.heap.size,1,none⟩ z).ownsRow w.heap.size 137 5 v n xs∧Below w.heap.size w ((wr.setCell ⟨w.heap.size,0,none⟩ u).setCell ⟨w.heap.size,1,none⟩ z):=by
 have h1:(wr.setCell ⟨w.heap.size,0,none⟩ u).heap[w.heap.size]? = some (.cells #[u, .int .i64 0] 87):=heap_setCell_lit (i:=0) h.rb u
 refine ⟨heap_setCell_lit (i:=1) h1 z,?_,(h.bl.setCell (p:=⟨w.heap.size,0,none⟩) (Nat.le_refl _) _).setCell (p:=⟨w.heap.size,1,none⟩) (Nat.le_refl _) _⟩
 have h2:=own_block h.own (w':=(wr.setCell ⟨w.heap.size,0,none⟩ u).setCell ⟨w.heap.size,1,none⟩ z) fun g hg hlt=>(heap_setCell_ne (by omega) _).trans (heap_setCell_ne (by omega) _)
 obtain ⟨hl,h2 | ⟨g,c,cur,hv,hb,hr⟩⟩:=h2
 · exact ⟨hl, .inl h2⟩
 · exact ⟨hl, .inr ⟨g,c,cur,hv,by omega,hr⟩⟩
theorem TS.r0 (h:TS toks tb cap w wr a v n xs fault):wr.cell? ⟨w.heap.size,0,none⟩=some (.slice none 0 0):=heap_cell h.rb
theorem TS.r1 (h:TS toks tb cap w wr a v n xs fault):wr.cell? ⟨w.heap.size,1,none⟩=some (.int .i64 0):=heap_cell h.rb
theorem TS.rf (h:TS toks tb cap w wr a v n xs fault) (i:Nat):wr.frozen? ⟨w.heap.size,i,none⟩=false:=heap_frozen h.rb
theorem TS.t0 (h:TS toks tb cap w wr a v n xs fault):wr.cell? ⟨w.heap.size+1+1,0,none⟩=some v:=heap_cell h.tr
theorem TS.t1 (h:TS toks tb cap w wr a v n xs fault):wr.cell? ⟨w.heap.size+1+1,1,none⟩=some (.int .i64 fault):=heap_cell h.tr
theorem TS.tf (h:TS toks tb cap w wr a v n xs fault) (i:Nat):wr.frozen? ⟨w.heap.size+1+1,i,none⟩=false:=heap_frozen h.tr
end
end Go.Proofs.YthibodlojlkppaaGreatDoor
namespace Go.Proofs.YthibodlojlkppaaGreatDoor
structure K where
 kind:Nat
 file:ByteArray
 name:ByteArray
variable [DecidableEq K]
abbrev Lk:=ByteArray ⊕ K
abbrev Lk.src (f:ByteArray):Lk := .inl f
abbrev Lk.slot (k:K):Lk := .inr k
variable [LawfulBEq Lk]
abbrev POp (V:Type):=V ⊕ Unit ⊕ ByteArray ⊕ K
def PAr (V:Type):POp V→Type
 | .inl _=>Empty
 | .inr (.inl _)=>Empty
 | .inr (.inr (.inl _))=>Option ByteArray
 | .inr (.inr (.inr _))=>V
structure Prog (V:Type) where
 op:POp V
 next:PAr V op→Prog V
abbrev Prog.ret {V:Type} (v:V):Prog V:=⟨.inl v,Empty.elim⟩
abbrev Prog.fail {V:Type}:Prog V:=⟨.inr (.inl ()),Empty.elim⟩
abbrev Prog.look {V:Type} (f:ByteArray) (c:Option ByteArray→Prog V):Prog V:=⟨.inr (.inr (.inl f)),c⟩
abbrev Prog.get {V:Type} (k:K) (c:V→Prog V):Prog V:=⟨.inr (.inr (.inr k)),c⟩
structure Memo (V:Type) where
 act:Bool
 ver:Option Nat
 used:Nat
 val:Option V
structure St (V:Type) where
 rev:Nat
 files:ByteArray→Option ByteArray
 src:ByteArray→Option Nat
 sl:K→Option (Memo V)
 kept:List K
 began:List K
 uses:Nat
abbrev Out (α:Type):=Except K α
abbrev Out.cyc {α:Type} (c:K):Out α := .error c
abbrev Res (V α:Type):=Option (Out α × St V)
abbrev Eng (V:Type):=K→St V→Res V Unit
def BIG:Nat:=1099511627776
def W64:Nat:=18446744073709551616
section
variable {V:Type}
def St.put (st:St V) (k:K) (m:Memo V):St V:={ st with sl:=fun j=>if j=k then some m else st.sl j }
def newM:Memo V:=⟨false,none,0,none⟩
def St.find (st:St V) (k:K):St V :=
 match st.sl k with
 | some _=>st
 | none=>st.put k newM
def St.source (st:St V) (f:ByteArray):St V :=
 match st.src f with
 | some _=>st
 | none => { st with src:=fun g=>if g=f then some 0 else st.src g }
def St.val (st:St V) (k:K):Option V:=(st.sl k).bind (·.val)
def St.use (st:St V) (k:K):St V :=
 match st.sl k with
 | none=>st
 | some m => { st.put k { m with used:=(st.uses+1) % W64 } with uses:=(st.uses+1) % W64,kept:=if k∈st.kept then st.kept else st.kept ++ [k] }
def St.leave (st:St V) (k:K):St V :=
 match st.sl k with
 | none=>st
 | some m=>st.put k { m with act:=false }
def ansM (st:St V) (m:Memo V) (v:V):Memo V:={ m with ver:=some st.rev,val:=some v }
def answer (st:St V) (k:K) (v:V):Option (St V) :=
 match st.sl k with
 | none=>none
 | some m=>if st.kept.length < BIG∧k ∉ st.kept then some ((st.put k (ansM st m v)).use k) else none
def fetC (E:Eng V) (nc:Bool) (k:K) (lk:List Lk) (st:St V):Res V (V × List Lk) :=
 if BIG < k.file.size∨BIG < k.name.size then none
 else if Lk.slot k∈lk then ((st.find k).val k).map fun v=>(.ok (v,lk),st.find k)
 else match E k (st.find k) with
  | some (.ok _,st2)=>if lk.length < BIG then (st2.val k).map fun v=>(.ok (v,lk ++ [.slot k]),st2) else none
  | some (.error c,st2)=>if nc || k.kind != 7 then none else some (.cyc c,st2)
  | none=>none
def run (E:Eng V) (nc:Bool):Prog V→List Lk→St V→Res V (V × List Lk)
 | ⟨.inl v,_⟩,lk,st=>some (.ok (v,lk),st)
 | ⟨.inr (.inl _),_⟩,_,_=>none
 | ⟨.inr (.inr (.inl f)),c⟩,lk,st=>if lk.length < BIG∧f.size≤BIG then run E nc (c (st.files f)) (lk ++ [.src f]) (st.source f) else none
 | ⟨.inr (.inr (.inr k)),c⟩,lk,st =>
  match fetC E nc k lk st with
  | some (.ok (v,lk'),st')=>run E nc (c v) lk' st'
  | some (.error c',st')=>some (.cyc c',st')
  | none=>none
def workOut (wp:K→Prog V) (E:Eng V) (k:K) (st:St V):Res V Unit :=
 if st.began.length < BIG then
  match run E (k.kind != 7) (wp k) [] { st with began:=st.began ++ [k] } with
  | some (.ok (v,_),st')=>(answer st' k v).map fun s=>(.ok (),s)
  | some (.error c,st')=>some (.cyc c,st')
  | none=>none
 else none
def inner (wp:K→Prog V) (E:Eng V) (k:K) (st:St V):Res V Unit :=
 match st.sl k with
 | none=>none
 | some m=>if m.ver=some st.rev then (if k∈st.kept then some (.ok (),st.use k) else workOut wp E k st) else if m.ver=none then workOut wp E k st else none
def settleM (wp:K→Prog V) (lp:V) (E:Eng V):Eng V:=fun k st =>
 match st.sl k with
 | none=>none
 | some m =>
  if m.act=true then (if k.kind != 7 then none else some (.cyc k,st))
  else match inner wp E k (st.put k { m with act:=true }) with
   | none=>none
   | some (.ok _,st2)=>some (.ok (),st2.leave k)
   | some (.error c,st2)=>if c=k then (answer st2 k lp).map fun s=>(.ok (),s.leave k) else if k.kind != 7 then none else some (.cyc c,st2.leave k)
def engM (wp:K→Prog V) (lp:V):Nat→Eng V
 | 0=>fun _ _=>none
 | n+1=>settleM wp lp (engM wp lp n)
def evalP (F:ByteArray→Option ByteArray) (a:K→V):Prog V→Option V
 | ⟨.inl v,_⟩=>some v
 | ⟨.inr (.inl _),_⟩=>none
 | ⟨.inr (.inr (.inl f)),c⟩=>evalP F a (c (F f))
 | ⟨.inr (.inr (.inr k)),c⟩=>evalP F a (c (a k))
def qs (F:ByteArray→Option ByteArray) (a:K→V):Prog V→List Lk
 | ⟨.inl _,_⟩ => []
 | ⟨.inr (.inl _),_⟩ => []
 | ⟨.inr (.inr (.inl f)),c⟩ => .src f :: qs F a (c (F f))
 | ⟨.inr (.inr (.inr k)),c⟩ => .slot k :: qs F a (c (a k))
def ded:List Lk→List Lk→List Lk
 | acc,[]=>acc
 | acc, .inl f :: ls=>ded (acc ++ [.src f]) ls
 | acc, .inr k :: ls=>if Lk.slot k∈acc then ded acc ls else ded (acc ++ [.slot k]) ls
def ReachN (F:ByteArray→Option ByteArray) (a:K→V) (wp:K→Prog V):Nat→K→K→Prop
 | 0,k,c=>k=c
 | n+1,k,c => ∃ j,Lk.slot j∈qs F a (wp k)∧ReachN F a wp n j c
def Reach (F:ByteArray→Option ByteArray) (a:K→V) (wp:K→Prog V) (k c:K):Prop:=∃ n,ReachN F a wp n k c
theorem Reach.here {F:ByteArray→Option ByteArray} {a:K→V} {wp:K→Prog V} (k:K):Reach F a wp k k:=⟨0,rfl⟩
theorem Reach.step {F:ByteArray→Option ByteArray} {a:K→V} {wp:K→Prog V} {k j c:K} (h:Lk.slot j∈qs F a (wp k)) (r:Reach F a wp j c):Reach F a wp k c:=by
 obtain ⟨n,hn⟩:=r
 exact ⟨n+1,j,h,hn⟩
theorem Reach.ind {F:ByteArray→Option ByteArray} {a:K→V} {wp:K→Prog V} {P:K→K→Prop} (h1:∀ k,P k k) (h2:∀ k j c,Lk.slot j∈qs F a (wp k)→Reach F a wp j c→P j c→P k c) {k c:K} (h:Reach F a wp k c):P k c:=by
 obtain ⟨n,hn⟩:=h
 revert k
 induction n with
 | zero=>intro k hn;cases hn;exact h1 _
 | succ n ih =>
  intro k hn
  obtain ⟨j,hj,hr⟩:=hn
  exact h2 k j c hj ⟨n,hr⟩ (ih hr)
end
end Go.Proofs.YthibodlojlkppaaGreatDoor

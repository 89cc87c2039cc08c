/-
  The parser: name, typeWord. The parser: use.
-/
import Derived.Test.YthibodlojlkppaaGreatDoorB03
set_option linter.unusedVariables false
set_option linter.unusedSectionVars false
set_option linter.unusedSimpArgs false
set_option maxRecDepth 100000
set_option maxHeartbeats 40000000

namespace Go.Proofs.YthibodlojlkppaaGreatDoor
open Go.RowKit
theorem nameB_ne {t:ByteArray} (h:nameB t=true):t≠⟨#[]⟩:=by
 rintro rfl
 rw [show nameB ⟨#[]⟩=false from by decide] at h
 cases h
theorem name_yes (toks:List Tok) (pb tb cap a nest:Nat) (w:World) (h:PS toks pb tb cap a nest w.heap) (ha:a < toks.length) (hl:a < 401) (hz:(tx toks a).size≤maxLen) (hn:nameB (tx toks a)=true) :
 Calls Tryz.prog 155 #[.pointer (some ⟨pb,0,none⟩)] w fun e w'=>e = .returned (.tuple #[.string (tx toks a), .bool true])∧PS toks pb tb cap (a+1) nest w'.heap∧Fr [pb] w w':=by
 have HH:=hid h
 have HZ:=hid hz
 clear h hz
 go_enter Tryz.func155,Tryz.ntmps155
 go_wp2_with (first
  | (go_at_call 142;go_must (refine (text_any toks pb tb cap a nest _ HH.out ha).mono ?_;rintro e w1 ⟨rfl,hb⟩;have HB:=hid hb;have H1:=hid (HH.out.below hb);have c1:=H1.out.c1;have f1:=H1.out.f 1;clear hb))
  | (go_at_call 35;go_must (refine (isName_any _ _ HZ.out).mono ?_;rintro e w2 ⟨rfl,rfl⟩)))
 go_ret2
 have:=H1.out.at (a+1)
 exact ⟨rfl,by simpa using this,(Fr.of_below HB.out).setCell _ (.inl (by simp)) _⟩
theorem name_no (toks:List Tok) (pb tb cap a nest:Nat) (w:World) (h:PS toks pb tb cap a nest w.heap) (ha:a < toks.length) (hz:(tx toks a).size≤maxLen) (hn:nameB (tx toks a)=false) :
 Calls Tryz.prog 155 #[.pointer (some ⟨pb,0,none⟩)] w fun e w'=>e = .returned (.tuple #[.string ⟨#[]⟩, .bool false])∧PS toks pb tb cap a nest w'.heap∧Fr [pb] w w':=by
 have HH:=hid h
 have HZ:=hid hz
 clear h hz
 go_enter Tryz.func155,Tryz.ntmps155
 go_wp2_with (first
  | (go_at_call 142;go_must (refine (text_any toks pb tb cap a nest _ HH.out ha).mono ?_;rintro e w1 ⟨rfl,hb⟩;have HB:=hid hb;have H1:=hid (HH.out.below hb);clear hb))
  | (go_at_call 35;go_must (refine (isName_any _ _ HZ.out).mono ?_;rintro e w2 ⟨rfl,rfl⟩)))
 go_ret2
 exact ⟨rfl,H1.out,Fr.of_below HB.out⟩
def isTy (toks:List Tok) (a:Nat):Bool:=isT toks a [105,110,116] || isT toks a [98,111,111,108]
theorem typeWord_yes (toks:List Tok) (pb tb cap a nest:Nat) (w:World) (h:PS toks pb tb cap a nest w.heap) (ha:a < toks.length) (hl:toks.length≤401) (hn:isTy toks a=true) :
 Calls Tryz.prog 156 #[.pointer (some ⟨pb,0,none⟩)] w fun e w'=>e = .returned (.tuple #[.string (tx toks a), .bool true])∧PS toks pb tb cap (a+1) nest w'.heap∧Fr [pb] w w':=by
 have HH:=hid h
 clear h
 cases h1:isT toks a [105,110,116] with
 | true =>
  have HT:Hid (eqB (tx toks a) ⟨#[105,110,116]⟩=true):=hid ((isT_eqB toks a [105,110,116]).symm.trans h1)
  clear h1 hn
  go_enter Tryz.func156,Tryz.ntmps156
  go_wp2_with (go_at_call 142;go_must (refine (text_any toks pb tb cap a nest _ HH.out ha).mono ?_;rintro e w1 ⟨rfl,hb⟩;have HB:=hid hb;have H1:=hid (HH.out.below hb);clear hb))
  go_wp2_with (go_at_call 143;go_must (refine (take_yes toks pb tb cap a nest _ _ H1.out ha hl HT.out).mono ?_;rintro e w2 ⟨rfl,hP2,hF2⟩;have HP2:=hid hP2;have HF2:=hid hF2;clear hP2 hF2))
  go_ret2
  exact ⟨rfl,HP2.out,(Fr.of_below HB.out).trans HF2.out⟩
 | false =>
  have h2:isT toks a [98,111,111,108]=true:=by simpa [isTy,h1] using hn
  have HT:Hid (eqB (tx toks a) ⟨#[105,110,116]⟩=false):=hid ((isT_eqB toks a [105,110,116]).symm.trans h1)
  have HT2:Hid (eqB (tx toks a) ⟨#[98,111,111,108]⟩=true):=hid ((isT_eqB toks a [98,111,111,108]).symm.trans h2)
  clear h1 hn h2
  go_enter Tryz.func156,Tryz.ntmps156
  go_wp2_with (go_at_call 142;go_must (refine (text_any toks pb tb cap a nest _ HH.out ha).mono ?_;rintro e w1 ⟨rfl,hb⟩;have HB:=hid hb;have H1:=hid (HH.out.below hb);clear hb))
  go_wp2_with fail
  refine (take_no toks pb tb cap a nest _ _ H1.out ha HT.out).mono ?_
  rintro e w2 ⟨rfl,hP2,hF2⟩
  have HP2:=hid hP2
  have HF2:=hid hF2
  clear hP2 hF2
  go_wp2_with fail
  refine (take_yes toks pb tb cap a nest _ _ HP2.out ha hl HT2.out).mono ?_
  rintro e w3 ⟨rfl,hP3,hF3⟩
  have HP3:=hid hP3
  have HF3:=hid hF3
  clear hP3 hF3
  go_wp2
  go_ret2
  exact ⟨rfl,HP3.out,((Fr.of_below HB.out).trans HF2.out).trans HF3.out⟩
theorem typeWord_no (toks:List Tok) (pb tb cap a nest:Nat) (w:World) (h:PS toks pb tb cap a nest w.heap) (ha:a < toks.length) (hn:isTy toks a=false) :
 Calls Tryz.prog 156 #[.pointer (some ⟨pb,0,none⟩)] w fun e w'=>e = .returned (.tuple #[.string (tx toks a), .bool false])∧PS toks pb tb cap a nest w'.heap∧Fr [pb] w w':=by
 have HH:=hid h
 simp only [isTy,Bool.or_eq_false_iff] at hn
 obtain ⟨h1,h2⟩:=hn
 have HT:Hid (eqB (tx toks a) ⟨#[105,110,116]⟩=false):=hid ((isT_eqB toks a [105,110,116]).symm.trans h1)
 have HT2:Hid (eqB (tx toks a) ⟨#[98,111,111,108]⟩=false):=hid ((isT_eqB toks a [98,111,111,108]).symm.trans h2)
 clear h1 h2 h
 go_enter Tryz.func156,Tryz.ntmps156
 go_wp2_with (go_at_call 142;go_must (refine (text_any toks pb tb cap a nest _ HH.out ha).mono ?_;rintro e w1 ⟨rfl,hb⟩;have HB:=hid hb;have H1:=hid (HH.out.below hb);clear hb))
 go_wp2_with fail
 refine (take_no toks pb tb cap a nest _ _ H1.out ha HT.out).mono ?_
 rintro e w2 ⟨rfl,hP2,hF2⟩
 have HP2:=hid hP2
 have HF2:=hid hF2
 clear hP2 hF2
 go_wp2_with fail
 refine (take_no toks pb tb cap a nest _ _ HP2.out ha HT2.out).mono ?_
 rintro e w3 ⟨rfl,hP3,hF3⟩
 have HP3:=hid hP3
 have HF3:=hid hF3
 clear hP3 hF3
 go_wp2
 go_ret2
 exact ⟨rfl,HP3.out,((Fr.of_below HB.out).trans HF2.out).trans HF3.out⟩
structure It where
 kind:Nat
 num:Nat
 name:ByteArray
 typ:ByteArray
 ex:Value
def itCells (i:It):List Value:=[.int .i64 i.kind, .int .i64 i.num, .string i.name, .string i.typ,i.ex]
def itV (i:It):Value := .agg #[.int .i64 i.kind, .int .i64 i.num, .string i.name, .string i.typ,i.ex]
def PostI (toks:List Tok) (pb tb cap b:Nat) (r:Option It) (w:World):Ending→World→Prop:=fun e w' =>
 (∃ v,e = .returned (.tuple #[v, .bool r.isSome])∧(∃ (k n:Int) (nm ty:ByteArray) (ex:Value),v = .agg #[.int .i64 k, .int .i64 n, .string nm, .string ty,ex]∧Ifc ex)∧(∀ x,r=some x→v=itV x))∧PS toks pb tb cap b 0 w'.heap∧b < toks.length∧Fr [pb] w w'
structure RS (toks:List Tok) (pb tb cap:Nat) (w wr:World) (c:Nat) (rs:Array Value):Prop where
 pl:pb < w.heap.size
 tl:tb < w.heap.size
 ps:PS toks pb tb cap c 0 wr.heap
 fr:Fr [pb] w wr
 rb:wr.heap[w.heap.size]? = some (.cells rs 137)
structure LS (toks:List Tok) (pb tb cap:Nat) (w:World) (lb:Nat) (wr:World) (c:Nat) (rs cs:Array Value):Prop extends RS toks pb tb cap w wr c rs where
 new:w.heap.size < lb
 ch:wr.heap[lb]? = some (.cells cs 137)
theorem RS.start {toks:List Tok} {pb tb cap c:Nat} {w:World} (h:PS toks pb tb cap c 0 w.heap) (rs:Array Value):RS toks pb tb cap w (w.alloc (.cells rs 137)) c rs:=by
 have h0:=h.t
 obtain ⟨cur,hc,_⟩:=h0
 exact ⟨heap_lt h.p,heap_lt hc,h.below ((Below.refl _ _).alloc (Nat.le_refl _) _),(Fr.refl _ _).alloc _,new_heap _ _⟩
theorem RS.call {toks:List Tok} {pb tb cap c d:Nat} {w wr w':World} {rs:Array Value} (h:RS toks pb tb cap w wr c rs) (hf:Fr [pb] wr w') (hp:PS toks pb tb cap d 0 w'.heap):RS toks pb tb cap w w' d rs :=
 ⟨h.pl,h.tl,hp,h.fr.trans hf,hf.heap h.rb (by have:=h.pl;simp;omega)⟩
theorem RS.item {toks:List Tok} {pb tb cap c:Nat} {w w1:World} {rs:Array Value} (h:RS toks pb tb cap w w1 c rs) (cs:Array Value):LS toks pb tb cap w w1.heap.size (w1.alloc (.cells cs 137)) c rs cs :=
 ⟨⟨h.pl,h.tl,h.ps.below ((Below.refl _ _).alloc (Nat.le_refl _) _),h.fr.alloc _,old_heap _ h.rb⟩,heap_lt h.rb,new_heap _ _⟩
theorem RS.cell {toks:List Tok} {pb tb cap c:Nat} {w wr:World} {rs:Array Value} (h:RS toks pb tb cap w wr c rs) (i:Nat):wr.cell? ⟨w.heap.size,i,none⟩=rs[i]?:=heap_cell h.rb
theorem RS.f {toks:List Tok} {pb tb cap c:Nat} {w wr:World} {rs:Array Value} (h:RS toks pb tb cap w wr c rs) (i:Nat):wr.frozen? ⟨w.heap.size,i,none⟩=false:=heap_frozen h.rb
theorem RS.set {toks:List Tok} {pb tb cap c:Nat} {w wr:World} {rs:Array Value} (h:RS toks pb tb cap w wr c rs) (i:Nat) (v:Value):RS toks pb tb cap w (wr.setCell ⟨w.heap.size,i,none⟩ v) c (rs.setIfInBounds i v) :=
 ⟨h.pl,h.tl,h.ps.other (by have:=h.pl;omega) (by have:=h.tl;omega) v,h.fr.setCell _ (.inr (Nat.le_refl _)) _,heap_setCell_lit (i:=i) h.rb v⟩
def put5 (w:World) (b:Nat) (v0 v1 v2 v3 v4:Value):World:=((((w.setCell ⟨b,0,none⟩ v0).setCell ⟨b,1,none⟩ v1).setCell ⟨b,2,none⟩ v2).setCell ⟨b,3,none⟩ v3).setCell ⟨b,4,none⟩ v4
theorem RS.put {toks:List Tok} {pb tb cap c:Nat} {w wr:World} {x0 x1 x2 x3 x4:Value} (h:RS toks pb tb cap w wr c #[x0,x1,x2,x3,x4]) (v0 v1 v2 v3 v4:Value):RS toks pb tb cap w (put5 wr w.heap.size v0 v1 v2 v3 v4) c #[v0,v1,v2,v3,v4]:=by
 have h0:RS toks pb tb cap w _ c #[v0,x1,x2,x3,x4]:=h.set 0 v0
 have h1:RS toks pb tb cap w _ c #[v0,v1,x2,x3,x4]:=h0.set 1 v1
 have h2:RS toks pb tb cap w _ c #[v0,v1,v2,x3,x4]:=h1.set 2 v2
 have h3:RS toks pb tb cap w _ c #[v0,v1,v2,v3,x4]:=h2.set 3 v3
 exact h3.set 4 v4
theorem LS.call {toks:List Tok} {pb tb cap c d lb:Nat} {w wr w':World} {rs cs:Array Value} (h:LS toks pb tb cap w lb wr c rs cs) (hf:Fr [pb] wr w') (hp:PS toks pb tb cap d 0 w'.heap):LS toks pb tb cap w lb w' d rs cs :=
 ⟨h.toRS.call hf hp,h.new,hf.heap h.ch (by have:=h.pl;have:=h.new;simp;omega)⟩
theorem LS.set {toks:List Tok} {pb tb cap c lb:Nat} {w wr:World} {rs cs:Array Value} (h:LS toks pb tb cap w lb wr c rs cs) (i:Nat) (v:Value):LS toks pb tb cap w lb (wr.setCell ⟨lb,i,none⟩ v) c rs (cs.setIfInBounds i v) :=
 ⟨⟨h.pl,h.tl,h.ps.other (by have:=h.pl;have:=h.new;omega) (by have:=h.tl;have:=h.new;omega) v,h.fr.setCell _ (.inr (Nat.le_of_lt h.new)) _,(heap_setCell_ne (by have:=h.new;omega) _).trans h.rb⟩,h.new,heap_setCell_lit (i:=i) h.ch v⟩
theorem LS.cell {toks:List Tok} {pb tb cap c lb:Nat} {w wr:World} {rs cs:Array Value} (h:LS toks pb tb cap w lb wr c rs cs) (i:Nat):wr.cell? ⟨lb,i,none⟩=cs[i]?:=heap_cell h.ch
theorem LS.f {toks:List Tok} {pb tb cap c lb:Nat} {w wr:World} {rs cs:Array Value} (h:LS toks pb tb cap w lb wr c rs cs) (i:Nat):wr.frozen? ⟨lb,i,none⟩=false:=heap_frozen h.ch
def useP (toks:List Tok) (a:Nat):Nat × Option It :=
 if nameB (tx toks a) then (if isT toks (a+1) [59] then (a+2,some ⟨0,a,tx toks a,⟨#[]⟩, .nilIface⟩) else (a+1,none)) else (a,none)
theorem use_any {toks:List Tok} (hw:Wf toks) (pb tb cap a:Nat) (w:World) (ha:a < toks.length) (hP:PS toks pb tb cap a 0 w.heap) :
 Calls Tryz.prog 144 #[.pointer (some ⟨pb,0,none⟩)] w (PostI toks pb tb cap (useP toks a).1 (useP toks a).2 w):=by
 have HW:=hid hw
 have HL:=hid hw.le
 have HZ:=hid (show (tx toks a).size≤maxLen by have:=hw.size a;unfold maxLen;omega)
 have ha4:Hid (a < 401):=hid (by have:=hw.le;omega)
 have hz:=RS.start hP #[.int .i64 0, .int .i64 0, .string ⟨#[]⟩, .string ⟨#[]⟩, .nilIface]
 have c1:=hz.ps.c1
 have hz2:=hz.item #[.int .i64 0, .int .i64 a, .string ⟨#[]⟩, .string ⟨#[]⟩, .nilIface]
 rw [show (w.alloc (.cells #[.int .i64 0, .int .i64 0, .string ⟨#[]⟩, .string ⟨#[]⟩, .nilIface] 137)).heap.size=w.heap.size+1 from by simp] at hz2
 have HC0:=hid hz2
 clear hw hP hz hz2
 cases hn:nameB (tx toks a) with
 | false =>
  have hu:useP toks a=(a,none):=by simp [useP,hn]
  rw [hu]
  have HN:=hid hn
  clear hu hn
  go_enter Tryz.func144,Tryz.ntmps144
  go_wp2_with fail
  refine (name_no toks pb tb cap a 0 _ HC0.out.ps ha HZ.out HN.out).mono ?_
  rintro e w1 ⟨rfl,hP1,hF1⟩
  have hc1:=HC0.out.call hF1 hP1
  have q2:w1.cell? ⟨w.heap.size+1,2,none⟩=some (.string ⟨#[]⟩):=hc1.cell 2
  have g2:=hc1.f 2
  have hc2:=hc1.set 2 (.string ⟨#[]⟩)
  have r0:(w1.setCell ⟨w.heap.size+1,2,none⟩ (.string ⟨#[]⟩)).cell? ⟨w.heap.size,0,none⟩=some (.int .i64 0):=hc2.toRS.cell 0
  have rf0:=hc2.toRS.f 0
  have r1:(w1.setCell ⟨w.heap.size+1,2,none⟩ (.string ⟨#[]⟩)).cell? ⟨w.heap.size,1,none⟩=some (.int .i64 0):=hc2.toRS.cell 1
  have rf1:=hc2.toRS.f 1
  have r2:(w1.setCell ⟨w.heap.size+1,2,none⟩ (.string ⟨#[]⟩)).cell? ⟨w.heap.size,2,none⟩=some (.string ⟨#[]⟩):=hc2.toRS.cell 2
  have rf2:=hc2.toRS.f 2
  have r3:(w1.setCell ⟨w.heap.size+1,2,none⟩ (.string ⟨#[]⟩)).cell? ⟨w.heap.size,3,none⟩=some (.string ⟨#[]⟩):=hc2.toRS.cell 3
  have rf3:=hc2.toRS.f 3
  have r4:(w1.setCell ⟨w.heap.size+1,2,none⟩ (.string ⟨#[]⟩)).cell? ⟨w.heap.size,4,none⟩=some .nilIface:=hc2.toRS.cell 4
  have rf4:=hc2.toRS.f 4
  have hR:RS toks pb tb cap w ((((((w1.setCell ⟨w.heap.size+1,2,none⟩ (.string ⟨#[]⟩)).setCell ⟨w.heap.size,0,none⟩ (.int .i64 0)).setCell ⟨w.heap.size,1,none⟩ (.int .i64 0)).setCell ⟨w.heap.size,2,none⟩ (.string ⟨#[]⟩)).setCell ⟨w.heap.size,3,none⟩ (.string ⟨#[]⟩)).setCell ⟨w.heap.size,4,none⟩ .nilIface) a #[.int .i64 0, .int .i64 0, .string ⟨#[]⟩, .string ⟨#[]⟩, .nilIface]:=hc2.toRS.put (.int .i64 0) (.int .i64 0) (.string ⟨#[]⟩) (.string ⟨#[]⟩) .nilIface
  have y0:((((((w1.setCell ⟨w.heap.size+1,2,none⟩ (.string ⟨#[]⟩)).setCell ⟨w.heap.size,0,none⟩ (.int .i64 0)).setCell ⟨w.heap.size,1,none⟩ (.int .i64 0)).setCell ⟨w.heap.size,2,none⟩ (.string ⟨#[]⟩)).setCell ⟨w.heap.size,3,none⟩ (.string ⟨#[]⟩)).setCell ⟨w.heap.size,4,none⟩ .nilIface).cell? ⟨w.heap.size,0,none⟩=some (.int .i64 0):=hR.cell 0
  have y1:((((((w1.setCell ⟨w.heap.size+1,2,none⟩ (.string ⟨#[]⟩)).setCell ⟨w.heap.size,0,none⟩ (.int .i64 0)).setCell ⟨w.heap.size,1,none⟩ (.int .i64 0)).setCell ⟨w.heap.size,2,none⟩ (.string ⟨#[]⟩)).setCell ⟨w.heap.size,3,none⟩ (.string ⟨#[]⟩)).setCell ⟨w.heap.size,4,none⟩ .nilIface).cell? ⟨w.heap.size,1,none⟩=some (.int .i64 0):=hR.cell 1
  have y2:((((((w1.setCell ⟨w.heap.size+1,2,none⟩ (.string ⟨#[]⟩)).setCell ⟨w.heap.size,0,none⟩ (.int .i64 0)).setCell ⟨w.heap.size,1,none⟩ (.int .i64 0)).setCell ⟨w.heap.size,2,none⟩ (.string ⟨#[]⟩)).setCell ⟨w.heap.size,3,none⟩ (.string ⟨#[]⟩)).setCell ⟨w.heap.size,4,none⟩ .nilIface).cell? ⟨w.heap.size,2,none⟩=some (.string ⟨#[]⟩):=hR.cell 2
  have y3:((((((w1.setCell ⟨w.heap.size+1,2,none⟩ (.string ⟨#[]⟩)).setCell ⟨w.heap.size,0,none⟩ (.int .i64 0)).setCell ⟨w.heap.size,1,none⟩ (.int .i64 0)).setCell ⟨w.heap.size,2,none⟩ (.string ⟨#[]⟩)).setCell ⟨w.heap.size,3,none⟩ (.string ⟨#[]⟩)).setCell ⟨w.heap.size,4,none⟩ .nilIface).cell? ⟨w.heap.size,3,none⟩=some (.string ⟨#[]⟩):=hR.cell 3
  have y4:((((((w1.setCell ⟨w.heap.size+1,2,none⟩ (.string ⟨#[]⟩)).setCell ⟨w.heap.size,0,none⟩ (.int .i64 0)).setCell ⟨w.heap.size,1,none⟩ (.int .i64 0)).setCell ⟨w.heap.size,2,none⟩ (.string ⟨#[]⟩)).setCell ⟨w.heap.size,3,none⟩ (.string ⟨#[]⟩)).setCell ⟨w.heap.size,4,none⟩ .nilIface).cell? ⟨w.heap.size,4,none⟩=some .nilIface:=hR.cell 4
  have HR:=hid hR
  clear hP1 hc1 hc2 hF1 hR
  go_wp2
  refine bodyPost_ret (v := .tuple #[.agg #[.int .i64 0, .int .i64 0, .string ⟨#[]⟩, .string ⟨#[]⟩, .nilIface], .bool false]) (by simp [results,Tryz.results144,go_sem,y0,y1,y2,y3,y4];try rfl) rfl ?_
  exact ⟨⟨_,rfl,⟨_,_,_,_,_,rfl, .inl rfl⟩,fun x h=>by cases h⟩,HR.out.ps,ha,HR.out.fr⟩
 | true =>
  have HN:=hid hn
  have HX:=hid (HW.out.next ha (nameB_ne hn))
  cases ht:isT toks (a+1) [59] with
  | false =>
   have hu:useP toks a=(a+1,none):=by simp [useP,hn,ht]
   rw [hu]
   have HT:Hid (eqB (tx toks (a+1)) ⟨#[59]⟩=false):=hid ((isT_eqB toks (a+1) [59]).symm.trans ht)
   clear hu hn ht
   go_enter Tryz.func144,Tryz.ntmps144
   go_wp2_with fail
   refine (name_yes toks pb tb cap a 0 _ HC0.out.ps ha ha4.out HZ.out HN.out).mono ?_
   rintro e w1 ⟨rfl,hP1,hF1⟩
   have hc1:=HC0.out.call hF1 hP1
   have q2:w1.cell? ⟨w.heap.size+1,2,none⟩=some (.string ⟨#[]⟩):=hc1.cell 2
   have g2:=hc1.f 2
   have hc2:LS toks pb tb cap w (w.heap.size+1) (w1.setCell ⟨w.heap.size+1,2,none⟩ (.string (tx toks a))) (a+1) #[.int .i64 0, .int .i64 0, .string ⟨#[]⟩, .string ⟨#[]⟩, .nilIface] #[.int .i64 0, .int .i64 a, .string (tx toks a), .string ⟨#[]⟩, .nilIface]:=hc1.set 2 _
   have HC2:=hid hc2
   have HF1:=hid hF1
   clear hP1 hc1 hc2 hF1
   have e0:(w1.setCell ⟨w.heap.size+1,2,none⟩ (.string (tx toks a))).drew.cell? ⟨w.heap.size+1,0,none⟩=some (.int .i64 0):=HC2.out.cell 0
   have e1:(w1.setCell ⟨w.heap.size+1,2,none⟩ (.string (tx toks a))).drew.cell? ⟨w.heap.size+1,1,none⟩=some (.int .i64 a):=HC2.out.cell 1
   have e2:(w1.setCell ⟨w.heap.size+1,2,none⟩ (.string (tx toks a))).drew.cell? ⟨w.heap.size+1,2,none⟩=some (.string (tx toks a)):=HC2.out.cell 2
   have e3:(w1.setCell ⟨w.heap.size+1,2,none⟩ (.string (tx toks a))).drew.cell? ⟨w.heap.size+1,3,none⟩=some (.string ⟨#[]⟩):=HC2.out.cell 3
   have e4:(w1.setCell ⟨w.heap.size+1,2,none⟩ (.string (tx toks a))).drew.cell? ⟨w.heap.size+1,4,none⟩=some (.nilIface):=HC2.out.cell 4
   go_wp2_with fail
   go_region_with (go_at_call 143;go_must (refine (take_no toks pb tb cap _ 0 _ _ ?hps HX.out HT.out).mono ?_;(case hps=>exact HC2.out.ps);rintro e w2 ⟨rfl,hP2,hF2⟩;have hc3:=HC2.out.call ((Fr.refl _ _).drew.trans hF2) hP2;have k0:w2.cell? ⟨w.heap.size+1,0,none⟩=some (.int .i64 0):=hc3.cell 0;have k1:w2.cell? ⟨w.heap.size+1,1,none⟩=some (.int .i64 a):=hc3.cell 1;have k2:w2.cell? ⟨w.heap.size+1,2,none⟩=some (.string (tx toks a)):=hc3.cell 2;have k3:w2.cell? ⟨w.heap.size+1,3,none⟩=some (.string ⟨#[]⟩):=hc3.cell 3;have k4:w2.cell? ⟨w.heap.size+1,4,none⟩=some (.nilIface):=hc3.cell 4;have r0:w2.cell? ⟨w.heap.size,0,none⟩=some (.int .i64 0):=hc3.toRS.cell 0;have r1:w2.cell? ⟨w.heap.size,1,none⟩=some (.int .i64 0):=hc3.toRS.cell 1;have r2:w2.cell? ⟨w.heap.size,2,none⟩=some (.string ⟨#[]⟩):=hc3.toRS.cell 2;have r3:w2.cell? ⟨w.heap.size,3,none⟩=some (.string ⟨#[]⟩):=hc3.toRS.cell 3;have r4:w2.cell? ⟨w.heap.size,4,none⟩=some (.nilIface):=hc3.toRS.cell 4;have rf0:=hc3.toRS.f 0;have rf1:=hc3.toRS.f 1;have rf2:=hc3.toRS.f 2;have rf3:=hc3.toRS.f 3;have rf4:=hc3.toRS.f 4;have HC3:=hid hc3;clear hP2 hF2 hc3))
   all_goals
    have hR:RS toks pb tb cap w (((((w2.setCell ⟨w.heap.size,0,none⟩ (.int .i64 0)).setCell ⟨w.heap.size,1,none⟩ (.int .i64 a)).setCell ⟨w.heap.size,2,none⟩ (.string (tx toks a))).setCell ⟨w.heap.size,3,none⟩ (.string ⟨#[]⟩)).setCell ⟨w.heap.size,4,none⟩ .nilIface) (a+1) #[.int .i64 0, .int .i64 a, .string (tx toks a), .string ⟨#[]⟩, .nilIface]:=HC3.out.toRS.put (.int .i64 0) (.int .i64 a) (.string (tx toks a)) (.string ⟨#[]⟩) .nilIface
    have y0:(((((w2.setCell ⟨w.heap.size,0,none⟩ (.int .i64 0)).setCell ⟨w.heap.size,1,none⟩ (.int .i64 a)).setCell ⟨w.heap.size,2,none⟩ (.string (tx toks a))).setCell ⟨w.heap.size,3,none⟩ (.string ⟨#[]⟩)).setCell ⟨w.heap.size,4,none⟩ .nilIface).cell? ⟨w.heap.size,0,none⟩=some (.int .i64 0):=hR.cell 0
    have y1:(((((w2.setCell ⟨w.heap.size,0,none⟩ (.int .i64 0)).setCell ⟨w.heap.size,1,none⟩ (.int .i64 a)).setCell ⟨w.heap.size,2,none⟩ (.string (tx toks a))).setCell ⟨w.heap.size,3,none⟩ (.string ⟨#[]⟩)).setCell ⟨w.heap.size,4,none⟩ .nilIface).cell? ⟨w.heap.size,1,none⟩=some (.int .i64 a):=hR.cell 1
    have y2:(((((w2.setCell ⟨w.heap.size,0,none⟩ (.int .i64 0)).setCell ⟨w.heap.size,1,none⟩ (.int .i64 a)).setCell ⟨w.heap.size,2,none⟩ (.string (tx toks a))).setCell ⟨w.heap.size,3,none⟩ (.string ⟨#[]⟩)).setCell ⟨w.heap.size,4,none⟩ .nilIface).cell? ⟨w.heap.size,2,none⟩=some (.string (tx toks a)):=hR.cell 2
    have y3:(((((w2.setCell ⟨w.heap.size,0,none⟩ (.int .i64 0)).setCell ⟨w.heap.size,1,none⟩ (.int .i64 a)).setCell ⟨w.heap.size,2,none⟩ (.string (tx toks a))).setCell ⟨w.heap.size,3,none⟩ (.string ⟨#[]⟩)).setCell ⟨w.heap.size,4,none⟩ .nilIface).cell? ⟨w.heap.size,3,none⟩=some (.string ⟨#[]⟩):=hR.cell 3
    have y4:(((((w2.setCell ⟨w.heap.size,0,none⟩ (.int .i64 0)).setCell ⟨w.heap.size,1,none⟩ (.int .i64 a)).setCell ⟨w.heap.size,2,none⟩ (.string (tx toks a))).setCell ⟨w.heap.size,3,none⟩ (.string ⟨#[]⟩)).setCell ⟨w.heap.size,4,none⟩ .nilIface).cell? ⟨w.heap.size,4,none⟩=some .nilIface:=hR.cell 4
    have HR:=hid hR
    clear hR
    go_wp2
    refine bodyPost_ret (v := .tuple #[.agg #[.int .i64 0, .int .i64 a, .string (tx toks a), .string ⟨#[]⟩, .nilIface], .bool false]) (by simp [results,Tryz.results144,go_sem,y0,y1,y2,y3,y4];try rfl) rfl ?_
    exact ⟨⟨_,rfl,⟨_,_,_,_,_,rfl, .inl rfl⟩,fun x h=>by cases h⟩,HR.out.ps,HX.out,HR.out.fr⟩
  | true =>
   have hu:useP toks a=(a+2,some ⟨0,a,tx toks a,⟨#[]⟩, .nilIface⟩):=by simp [useP,hn,ht]
   rw [hu]
   have HT:Hid (eqB (tx toks (a+1)) ⟨#[59]⟩=true):=hid ((isT_eqB toks (a+1) [59]).symm.trans ht)
   have HX2:=hid (HW.out.next_isT HX.out ht)
   clear hu hn ht
   go_enter Tryz.func144,Tryz.ntmps144
   go_wp2_with fail
   refine (name_yes toks pb tb cap a 0 _ HC0.out.ps ha ha4.out HZ.out HN.out).mono ?_
   rintro e w1 ⟨rfl,hP1,hF1⟩
   have hc1:=HC0.out.call hF1 hP1
   have q2:w1.cell? ⟨w.heap.size+1,2,none⟩=some (.string ⟨#[]⟩):=hc1.cell 2
   have g2:=hc1.f 2
   have hc2:LS toks pb tb cap w (w.heap.size+1) (w1.setCell ⟨w.heap.size+1,2,none⟩ (.string (tx toks a))) (a+1) #[.int .i64 0, .int .i64 0, .string ⟨#[]⟩, .string ⟨#[]⟩, .nilIface] #[.int .i64 0, .int .i64 a, .string (tx toks a), .string ⟨#[]⟩, .nilIface]:=hc1.set 2 _
   have HC2:=hid hc2
   have HF1:=hid hF1
   clear hP1 hc1 hc2 hF1
   have e0:(w1.setCell ⟨w.heap.size+1,2,none⟩ (.string (tx toks a))).drew.cell? ⟨w.heap.size+1,0,none⟩=some (.int .i64 0):=HC2.out.cell 0
   have e1:(w1.setCell ⟨w.heap.size+1,2,none⟩ (.string (tx toks a))).drew.cell? ⟨w.heap.size+1,1,none⟩=some (.int .i64 a):=HC2.out.cell 1
   have e2:(w1.setCell ⟨w.heap.size+1,2,none⟩ (.string (tx toks a))).drew.cell? ⟨w.heap.size+1,2,none⟩=some (.string (tx toks a)):=HC2.out.cell 2
   have e3:(w1.setCell ⟨w.heap.size+1,2,none⟩ (.string (tx toks a))).drew.cell? ⟨w.heap.size+1,3,none⟩=some (.string ⟨#[]⟩):=HC2.out.cell 3
   have e4:(w1.setCell ⟨w.heap.size+1,2,none⟩ (.string (tx toks a))).drew.cell? ⟨w.heap.size+1,4,none⟩=some (.nilIface):=HC2.out.cell 4
   go_wp2_with fail
   go_region_with (go_at_call 143;go_must (refine (take_yes toks pb tb cap _ 0 _ _ ?hps HX.out HL.out HT.out).mono ?_;(case hps=>exact HC2.out.ps);rintro e w2 ⟨rfl,hP2,hF2⟩;have hc3:=HC2.out.call ((Fr.refl _ _).drew.trans hF2) hP2;have k0:w2.cell? ⟨w.heap.size+1,0,none⟩=some (.int .i64 0):=hc3.cell 0;have k1:w2.cell? ⟨w.heap.size+1,1,none⟩=some (.int .i64 a):=hc3.cell 1;have k2:w2.cell? ⟨w.heap.size+1,2,none⟩=some (.string (tx toks a)):=hc3.cell 2;have k3:w2.cell? ⟨w.heap.size+1,3,none⟩=some (.string ⟨#[]⟩):=hc3.cell 3;have k4:w2.cell? ⟨w.heap.size+1,4,none⟩=some (.nilIface):=hc3.cell 4;have r0:w2.cell? ⟨w.heap.size,0,none⟩=some (.int .i64 0):=hc3.toRS.cell 0;have r1:w2.cell? ⟨w.heap.size,1,none⟩=some (.int .i64 0):=hc3.toRS.cell 1;have r2:w2.cell? ⟨w.heap.size,2,none⟩=some (.string ⟨#[]⟩):=hc3.toRS.cell 2;have r3:w2.cell? ⟨w.heap.size,3,none⟩=some (.string ⟨#[]⟩):=hc3.toRS.cell 3;have r4:w2.cell? ⟨w.heap.size,4,none⟩=some (.nilIface):=hc3.toRS.cell 4;have rf0:=hc3.toRS.f 0;have rf1:=hc3.toRS.f 1;have rf2:=hc3.toRS.f 2;have rf3:=hc3.toRS.f 3;have rf4:=hc3.toRS.f 4;have HC3:=hid hc3;clear hP2 hF2 hc3))
   all_goals
    have hR:RS toks pb tb cap w (((((w2.setCell ⟨w.heap.size,0,none⟩ (.int .i64 0)).setCell ⟨w.heap.size,1,none⟩ (.int .i64 a)).setCell ⟨w.heap.size,2,none⟩ (.string (tx toks a))).setCell ⟨w.heap.size,3,none⟩ (.string ⟨#[]⟩)).setCell ⟨w.heap.size,4,none⟩ .nilIface) (a+2) #[.int .i64 0, .int .i64 a, .string (tx toks a), .string ⟨#[]⟩, .nilIface]:=HC3.out.toRS.put (.int .i64 0) (.int .i64 a) (.string (tx toks a)) (.string ⟨#[]⟩) .nilIface
    have y0:(((((w2.setCell ⟨w.heap.size,0,none⟩ (.int .i64 0)).setCell ⟨w.heap.size,1,none⟩ (.int .i64 a)).setCell ⟨w.heap.size,2,none⟩ (.string (tx toks a))).setCell ⟨w.heap.size,3,none⟩ (.string ⟨#[]⟩)).setCell ⟨w.heap.size,4,none⟩ .nilIface).cell? ⟨w.heap.size,0,none⟩=some (.int .i64 0):=hR.cell 0
    have y1:(((((w2.setCell ⟨w.heap.size,0,none⟩ (.int .i64 0)).setCell ⟨w.heap.size,1,none⟩ (.int .i64 a)).setCell ⟨w.heap.size,2,none⟩ (.string (tx toks a))).setCell ⟨w.heap.size,3,none⟩ (.string ⟨#[]⟩)).setCell ⟨w.heap.size,4,none⟩ .nilIface).cell? ⟨w.heap.size,1,none⟩=some (.int .i64 a):=hR.cell 1
    have y2:(((((w2.setCell ⟨w.heap.size,0,none⟩ (.int .i64 0)).setCell ⟨w.heap.size,1,none⟩ (.int .i64 a)).setCell ⟨w.heap.size,2,none⟩ (.string (tx toks a))).setCell ⟨w.heap.size,3,none⟩ (.string ⟨#[]⟩)).setCell ⟨w.heap.size,4,none⟩ .nilIface).cell? ⟨w.heap.size,2,none⟩=some (.string (tx toks a)):=hR.cell 2
    have y3:(((((w2.setCell ⟨w.heap.size,0,none⟩ (.int .i64 0)).setCell ⟨w.heap.size,1,none⟩ (.int .i64 a)).setCell ⟨w.heap.size,2,none⟩ (.string (tx toks a))).setCell ⟨w.heap.size,3,none⟩ (.string ⟨#[]⟩)).setCell ⟨w.heap.size,4,none⟩ .nilIface).cell? ⟨w.heap.size,3,none⟩=some (.string ⟨#[]⟩):=hR.cell 3
    have y4:(((((w2.setCell ⟨w.heap.size,0,none⟩ (.int .i64 0)).setCell ⟨w.heap.size,1,none⟩ (.int .i64 a)).setCell ⟨w.heap.size,2,none⟩ (.string (tx toks a))).setCell ⟨w.heap.size,3,none⟩ (.string ⟨#[]⟩)).setCell ⟨w.heap.size,4,none⟩ .nilIface).cell? ⟨w.heap.size,4,none⟩=some .nilIface:=hR.cell 4
    have HR:=hid hR
    clear hR
    go_wp2
    refine bodyPost_ret (v := .tuple #[.agg #[.int .i64 0, .int .i64 a, .string (tx toks a), .string ⟨#[]⟩, .nilIface], .bool true]) (by simp [results,Tryz.results144,go_sem,y0,y1,y2,y3,y4];try rfl) rfl ?_
    exact ⟨⟨_,rfl,⟨_,_,_,_,_,rfl, .inl rfl⟩,fun x h=>by cases h;rfl⟩,HR.out.ps,HX2.out,HR.out.fr⟩
end Go.Proofs.YthibodlojlkppaaGreatDoor

import Derived.Test.YthibodlojlkppaaGreatDoorZ04
import Derived.LaidEql
import Derived.Laws.EntriesVeiled
set_option linter.all false
set_option maxRecDepth 100000
set_option maxHeartbeats 40000000
namespace Go.Proofs.YthibodlojlkppaaGreatDoor
open Go.RowKit
variable [DecidableEq K] [LawfulBEq Lk]
def LV(p sb:Nat)(T:TypeId)(b:Bool)(w:World):Prop:=w.cell? ⟨p,4,none⟩=some (.bool true)/\w.cell? ⟨p,5,none⟩=some (.bool b)/\w.frozen? ⟨p,4,none⟩=false/\w.frozen? ⟨p,5,none⟩=false/\w.cell? ⟨sb,0,none⟩=some (.iface T (.pointer (some ⟨p,0,none⟩)))
def zM(p:Nat)(R:Ending->World->Prop)(S:World->Prop):Ending->World->Prop:=fun e w'=>
 (∃w1,R (.returned (.tuple #[])) w1/\e = .returned (.tuple #[])/\w'=(w1.setCell ⟨p,4,none⟩ (.bool false)).setCell ⟨p,5,none⟩ (.bool false))\/
 (∃w1 T' pv,R (.panicked [{v:=.iface T' pv,recovered:=false}]) w1/\w1.cell? ⟨p,5,none⟩=some (.bool false)/\e = .panicked [{v:=.iface T' pv,recovered:=false}]/\w'=(w1.setCell ⟨p,4,none⟩ (.bool false)).setCell ⟨p,5,none⟩ (.bool false))\/
 (∃w1,S w1/\e = .returned (.tuple #[])/\w'=(w1.setCell ⟨p,4,none⟩ (.bool false)).setCell ⟨p,5,none⟩ (.bool false))
theorem Jy(T:TypeId)(F FL:FuncId)(hM:MT T F)(hL:LT T FL)(p bs:Nat)(rv:Int)(hr0:0<=rv)(w:World)(c0:w.cell? ⟨p,0,none⟩=some (.pointer (some ⟨bs,1,none⟩)))(c4:w.cell? ⟨p,4,none⟩=some (.bool false))(c7:w.cell? ⟨p,7,none⟩=some (.int .i64 (-1)))(hf:w.frozen? ⟨p,4,none⟩=false)(hr:w.cell? ⟨bs,1,none⟩=some (.int .i64 rv))(hne:bs≠p)(hp:p<w.heap.size)(hb:bs<w.heap.size)(R:Ending->World->Prop)(S:World->Prop)
 (hQ:∀e w1,R e w1->(e = .returned (.tuple #[])/\LV p w.heap.size T false w1)\/∃T' pv,e = .panicked [{v:=.iface T' pv,recovered:=false}]/\(LV p w.heap.size T false w1\/LV p w.heap.size T true w1))
 (HL:∀w1 T' pv,R (.panicked [{v:=.iface T' pv,recovered:=false}]) w1->w1.cell? ⟨p,5,none⟩=some (.bool true)->Calls Tryz.prog FL #[.pointer (some ⟨p,0,none⟩)] w1 fun e w2=>e = .returned (.tuple #[])/\S w2)
 (hS:∀w1,S w1->w1.cell? ⟨p,4,none⟩=some (.bool true)/\w1.cell? ⟨p,5,none⟩=some (.bool true)/\w1.frozen? ⟨p,4,none⟩=false/\w1.frozen? ⟨p,5,none⟩=false)
 (HW:Calls Tryz.prog F #[.pointer (some ⟨p,0,none⟩)] ((w.setCell ⟨p,4,none⟩ (.bool true)).alloc (.cells #[.iface T (.pointer (some ⟨p,0,none⟩))] 94)) R) :
 Calls Tryz.prog 87 #[.iface T (.pointer (some ⟨p,0,none⟩)),.bool true] w (zM p R S):=by
 have f4:=hf;have m1:=hM.enter;have m2:=hM.nenter;have hmf:∀(fn:Fn) (first cap:Array Value) (w:World),(Instr.makeFunc fn first cap).run Tryz.prog w = .ok (.func fn first cap) w:=fun _ _ _ _=>rfl;go_enter_defers Tryz.func87,Tryz.ntmps87
 go_wp2_with fail
 have hbl:=aG w (.cells #[.iface T (.pointer (some ⟨p,0,none⟩))] 94);have e4:(w.alloc (.cells #[.iface T (.pointer (some ⟨p,0,none⟩))] 94)).cell? ⟨p,4,none⟩=some (.bool false):=(World.cell?_of_block (w:=w) (hbl.block p hp)).trans c4;have ef4:(w.alloc (.cells #[.iface T (.pointer (some ⟨p,0,none⟩))] 94)).frozen? ⟨p,4,none⟩=false:=(World.frozen?_of_block (w:=w) (hbl.block p hp)).trans f4;refine (p9 p _ e4 ef4).mono ?_;rintro e w1⟨rfl,rfl⟩;have m3:=hM.verify;have m4:=hM.nverify;have m5:=hM.workOut;have m6:=hM.nworkOut;have m7:=hM.ent;have d0:((w.setCell ⟨p,4,none⟩ (.bool true)).alloc (.cells #[.iface T (.pointer (some ⟨p,0,none⟩))] 94)).cell? ⟨p,0,none⟩=some (.pointer (some ⟨bs,1,none⟩)):=(World.cell?_alloc_past _ _ _ (by simpa using hp)).trans ((World.cell?_setCell_other _ _ _ _ (by simp)).trans c0);have d7:((w.setCell ⟨p,4,none⟩ (.bool true)).alloc (.cells #[.iface T (.pointer (some ⟨p,0,none⟩))] 94)).cell? ⟨p,7,none⟩=some (.int .i64 (-1)):=(World.cell?_alloc_past _ _ _ (by simpa using hp)).trans ((World.cell?_setCell_other _ _ _ _ (by simp)).trans c7);have dr:((w.setCell ⟨p,4,none⟩ (.bool true)).alloc (.cells #[.iface T (.pointer (some ⟨p,0,none⟩))] 94)).cell? ⟨bs,1,none⟩=some (.int .i64 rv):=(World.cell?_alloc_past _ _ _ (by simpa using hb)).trans ((World.cell?_setCell_other _ _ _ _ (by simp[hne.symm])).trans hr);clear c0 c4 c7 hf f4 e4 ef4 hbl m1 m2 hr;go_wp2_with fail
 refine (Co p bs rv hr0 _ d0 d7 dr).mono ?_;rintro e w3⟨rfl,rfl⟩;clear d0 d7 dr;go_wp2_with fail
 have m8:=hM.leave;have m9:=hM.nleave;refine HW.mono ?_;rintro e w4 hq;have HQ4:=hid hq;rcases hQ _ _ hq with ⟨rfl,l4,l5,g4,g5,lb⟩|⟨T',pv,rfl,⟨l4,l5,g4,g5,lb⟩|⟨l4,l5,g4,g5,lb⟩⟩
 . clear hq
   go_wp2_with fail
   refine leaves_cons (f:=117) (args:=#[.pointer (some ⟨w.heap.size,0,none⟩)]) (by simp) (by simp[go_sem]) ?_;refine (iK T F hM p w.heap.size _ w4 lb l5).mono ?_;rintro e u' w5⟨rfl,rfl,rfl⟩;refine leaves_cons (f:=224) (args:=#[.pointer (some ⟨p,0,none⟩)]) (by simp[settle]) (by simp[go_sem,m8,m9]) ?_;refine (dB p _ _ true false l4 l5 g4 g5).mono ?_;rintro e u' w6⟨rfl,rfl,rfl⟩;exact⟨_,results_none rfl _ _ _,.inl ⟨_,HQ4.out,rfl,rfl⟩⟩
 . clear hq
   go_wp2_with fail
   refine leaves_cons (f:=117) (args:=#[.pointer (some ⟨w.heap.size,0,none⟩)]) (by simp) (by simp[go_sem]) ?_;refine (iK T F hM p w.heap.size _ w4 lb l5).mono ?_;rintro e u' w5⟨rfl,rfl,rfl⟩;refine leaves_cons (f:=224) (args:=#[.pointer (some ⟨p,0,none⟩)]) (by simp[settle]) (by simp[go_sem,m8,m9]) ?_;refine (dB p _ _ true false l4 l5 g4 g5).mono ?_;rintro e u' w6⟨rfl,rfl,rfl⟩;exact .inr (.inl ⟨_,_,_,HQ4.out,l5,rfl,rfl⟩)
 . have hlo:=HL _ _ _ hq l5
   clear hq;go_wp2_with fail
   refine leaves_cons (f:=117) (args:=#[.pointer (some ⟨w.heap.size,0,none⟩)]) (by simp) (by simp[go_sem]) ?_;refine (mI T F FL hM hL p w.heap.size T' pv [] w4 _ lb l5 hlo).mono ?_;rintro e u' w5⟨rfl,rfl,hs⟩;have HS5:=hid hs;obtain⟨l4,l5,g4,g5⟩:=hS _ hs;clear hs;refine leaves_cons (f:=224) (args:=#[.pointer (some ⟨p,0,none⟩)]) (by simp[settle]) (by simp[go_sem,m8,m9]) ?_;refine (dB p _ _ true true l4 l5 g4 g5).mono ?_;rintro e u' w6⟨rfl,rfl,rfl⟩;exact⟨_,results_none rfl _ _ _,.inr (.inr ⟨_,HS5.out,rfl,rfl⟩)⟩
theorem Jz(T:TypeId)(F FL:FuncId)(hM:MT T F)(hL:LT T FL)(p bs:Nat)(rv:Int)(pl:Int)(hpl:(pl == -1)=true)(w:World)(c0:w.cell? ⟨p,0,none⟩=some (.pointer (some ⟨bs,1,none⟩)))(c4:w.cell? ⟨p,4,none⟩=some (.bool false))(c7:w.cell? ⟨p,7,none⟩=some (.int .i64 rv))(hf:w.frozen? ⟨p,4,none⟩=false)(h10:w.cell? ⟨p,10,none⟩=some (.int .i64 pl))(hr:w.cell? ⟨bs,1,none⟩=some (.int .i64 rv))(hne:bs≠p)(hp:p<w.heap.size)(hb:bs<w.heap.size)(R:Ending->World->Prop)(S:World->Prop)
 (hQ:∀e w1,R e w1->(e = .returned (.tuple #[])/\LV p w.heap.size T false w1)\/∃T' pv,e = .panicked [{v:=.iface T' pv,recovered:=false}]/\(LV p w.heap.size T false w1\/LV p w.heap.size T true w1))
 (HL:∀w1 T' pv,R (.panicked [{v:=.iface T' pv,recovered:=false}]) w1->w1.cell? ⟨p,5,none⟩=some (.bool true)->Calls Tryz.prog FL #[.pointer (some ⟨p,0,none⟩)] w1 fun e w2=>e = .returned (.tuple #[])/\S w2)
 (hS:∀w1,S w1->w1.cell? ⟨p,4,none⟩=some (.bool true)/\w1.cell? ⟨p,5,none⟩=some (.bool true)/\w1.frozen? ⟨p,4,none⟩=false/\w1.frozen? ⟨p,5,none⟩=false)
 (HW:Calls Tryz.prog F #[.pointer (some ⟨p,0,none⟩)] ((w.setCell ⟨p,4,none⟩ (.bool true)).alloc (.cells #[.iface T (.pointer (some ⟨p,0,none⟩))] 94)) R) :
 Calls Tryz.prog 87 #[.iface T (.pointer (some ⟨p,0,none⟩)),.bool true] w (zM p R S):=by
 have f4:=hf;have m1:=hM.enter;have m2:=hM.nenter;have hmf:∀(fn:Fn) (first cap:Array Value) (w:World),(Instr.makeFunc fn first cap).run Tryz.prog w = .ok (.func fn first cap) w:=fun _ _ _ _=>rfl;go_enter_defers Tryz.func87,Tryz.ntmps87
 go_wp2_with fail
 have hbl:=aG w (.cells #[.iface T (.pointer (some ⟨p,0,none⟩))] 94);have e4:(w.alloc (.cells #[.iface T (.pointer (some ⟨p,0,none⟩))] 94)).cell? ⟨p,4,none⟩=some (.bool false):=(World.cell?_of_block (w:=w) (hbl.block p hp)).trans c4;have ef4:(w.alloc (.cells #[.iface T (.pointer (some ⟨p,0,none⟩))] 94)).frozen? ⟨p,4,none⟩=false:=(World.frozen?_of_block (w:=w) (hbl.block p hp)).trans f4;refine (p9 p _ e4 ef4).mono ?_;rintro e w1⟨rfl,rfl⟩;have m3:=hM.verify;have m4:=hM.nverify;have m5:=hM.isDropped;have m6:=hM.nisDropped;have m10:=hM.workOut;have m11:=hM.nworkOut;have m7:=hM.ent;have d0:((w.setCell ⟨p,4,none⟩ (.bool true)).alloc (.cells #[.iface T (.pointer (some ⟨p,0,none⟩))] 94)).cell? ⟨p,0,none⟩=some (.pointer (some ⟨bs,1,none⟩)):=(World.cell?_alloc_past _ _ _ (by simpa using hp)).trans ((World.cell?_setCell_other _ _ _ _ (by simp)).trans c0);have d7:((w.setCell ⟨p,4,none⟩ (.bool true)).alloc (.cells #[.iface T (.pointer (some ⟨p,0,none⟩))] 94)).cell? ⟨p,7,none⟩=some (.int .i64 rv):=(World.cell?_alloc_past _ _ _ (by simpa using hp)).trans ((World.cell?_setCell_other _ _ _ _ (by simp)).trans c7);have dr:((w.setCell ⟨p,4,none⟩ (.bool true)).alloc (.cells #[.iface T (.pointer (some ⟨p,0,none⟩))] 94)).cell? ⟨bs,1,none⟩=some (.int .i64 rv):=(World.cell?_alloc_past _ _ _ (by simpa using hb)).trans ((World.cell?_setCell_other _ _ _ _ (by simp[hne.symm])).trans hr);have d10:((w.setCell ⟨p,4,none⟩ (.bool true)).alloc (.cells #[.iface T (.pointer (some ⟨p,0,none⟩))] 94)).cell? ⟨p,10,none⟩=some (.int .i64 pl):=(World.cell?_alloc_past _ _ _ (by simpa using hp)).trans ((World.cell?_setCell_other _ _ _ _ (by simp)).trans h10);clear h10;clear c0 c4 c7 hf f4 e4 ef4 hbl m1 m2 hr;go_wp2_with fail
 refine (q9 p bs rv _ d0 d7 dr).mono ?_;rintro e w3⟨rfl,rfl⟩;clear d0 d7 dr;go_wp2_with fail
 refine (iH p pl _ d10).mono ?_;rintro e w3⟨rfl,rfl⟩;rw[hpl];clear d10;go_wp2_with fail
 have m8:=hM.leave;have m9:=hM.nleave;refine HW.mono ?_;rintro e w4 hq;have HQ4:=hid hq;rcases hQ _ _ hq with ⟨rfl,l4,l5,g4,g5,lb⟩|⟨T',pv,rfl,⟨l4,l5,g4,g5,lb⟩|⟨l4,l5,g4,g5,lb⟩⟩
 . clear hq
   go_wp2_with fail
   refine leaves_cons (f:=117) (args:=#[.pointer (some ⟨w.heap.size,0,none⟩)]) (by simp) (by simp[go_sem]) ?_;refine (iK T F hM p w.heap.size _ w4 lb l5).mono ?_;rintro e u' w5⟨rfl,rfl,rfl⟩;refine leaves_cons (f:=224) (args:=#[.pointer (some ⟨p,0,none⟩)]) (by simp[settle]) (by simp[go_sem,m8,m9]) ?_;refine (dB p _ _ true false l4 l5 g4 g5).mono ?_;rintro e u' w6⟨rfl,rfl,rfl⟩;exact⟨_,results_none rfl _ _ _,.inl ⟨_,HQ4.out,rfl,rfl⟩⟩
 . clear hq
   go_wp2_with fail
   refine leaves_cons (f:=117) (args:=#[.pointer (some ⟨w.heap.size,0,none⟩)]) (by simp) (by simp[go_sem]) ?_;refine (iK T F hM p w.heap.size _ w4 lb l5).mono ?_;rintro e u' w5⟨rfl,rfl,rfl⟩;refine leaves_cons (f:=224) (args:=#[.pointer (some ⟨p,0,none⟩)]) (by simp[settle]) (by simp[go_sem,m8,m9]) ?_;refine (dB p _ _ true false l4 l5 g4 g5).mono ?_;rintro e u' w6⟨rfl,rfl,rfl⟩;exact .inr (.inl ⟨_,_,_,HQ4.out,l5,rfl,rfl⟩)
 . have hlo:=HL _ _ _ hq l5
   clear hq;go_wp2_with fail
   refine leaves_cons (f:=117) (args:=#[.pointer (some ⟨w.heap.size,0,none⟩)]) (by simp) (by simp[go_sem]) ?_;refine (mI T F FL hM hL p w.heap.size T' pv [] w4 _ lb l5 hlo).mono ?_;rintro e u' w5⟨rfl,rfl,hs⟩;have HS5:=hid hs;obtain⟨l4,l5,g4,g5⟩:=hS _ hs;clear hs;refine leaves_cons (f:=224) (args:=#[.pointer (some ⟨p,0,none⟩)]) (by simp[settle]) (by simp[go_sem,m8,m9]) ?_;refine (dB p _ _ true true l4 l5 g4 g5).mono ?_;rintro e u' w6⟨rfl,rfl,rfl⟩;exact⟨_,results_none rfl _ _ _,.inr (.inr ⟨_,HS5.out,rfl,rfl⟩)⟩
theorem JA(T:TypeId)(F:FuncId)(hM:MT T F)(p bs:Nat)(rv:Int)(pl:Int)(hpl:(pl == -1)=false)(w:World)(c0:w.cell? ⟨p,0,none⟩=some (.pointer (some ⟨bs,1,none⟩)))(c4:w.cell? ⟨p,4,none⟩=some (.bool false))(c7:w.cell? ⟨p,7,none⟩=some (.int .i64 rv))(hf:w.frozen? ⟨p,4,none⟩=false)(h10:w.cell? ⟨p,10,none⟩=some (.int .i64 pl))(hr:w.cell? ⟨bs,1,none⟩=some (.int .i64 rv))(hne:bs≠p)(hp:p<w.heap.size)(hb:bs<w.heap.size)(Q:World->Prop)
 (hQ:∀w1,Q w1->LV p w.heap.size T false w1)
 (HW:Calls Tryz.prog 118 #[.iface T (.pointer (some ⟨p,0,none⟩))] ((w.setCell ⟨p,4,none⟩ (.bool true)).alloc (.cells #[.iface T (.pointer (some ⟨p,0,none⟩))] 94)) fun e w1=>e = .returned (.tuple #[])/\Q w1) :
 Calls Tryz.prog 87 #[.iface T (.pointer (some ⟨p,0,none⟩)),.bool true] w fun e w'=>e = .returned (.tuple #[])/\∃w1,Q w1/\w'=(w1.setCell ⟨p,4,none⟩ (.bool false)).setCell ⟨p,5,none⟩ (.bool false):=by
 have f4:=hf;have m1:=hM.enter;have m2:=hM.nenter;have hmf:∀(fn:Fn) (first cap:Array Value) (w:World),(Instr.makeFunc fn first cap).run Tryz.prog w = .ok (.func fn first cap) w:=fun _ _ _ _=>rfl;go_enter_defers Tryz.func87,Tryz.ntmps87
 go_wp2_with fail
 have hbl:=aG w (.cells #[.iface T (.pointer (some ⟨p,0,none⟩))] 94);have e4:(w.alloc (.cells #[.iface T (.pointer (some ⟨p,0,none⟩))] 94)).cell? ⟨p,4,none⟩=some (.bool false):=(World.cell?_of_block (w:=w) (hbl.block p hp)).trans c4;have ef4:(w.alloc (.cells #[.iface T (.pointer (some ⟨p,0,none⟩))] 94)).frozen? ⟨p,4,none⟩=false:=(World.frozen?_of_block (w:=w) (hbl.block p hp)).trans f4;refine (p9 p _ e4 ef4).mono ?_;rintro e w1⟨rfl,rfl⟩;have m3:=hM.verify;have m4:=hM.nverify;have m5:=hM.isDropped;have m6:=hM.nisDropped;have m7:=hM.ent;have d0:((w.setCell ⟨p,4,none⟩ (.bool true)).alloc (.cells #[.iface T (.pointer (some ⟨p,0,none⟩))] 94)).cell? ⟨p,0,none⟩=some (.pointer (some ⟨bs,1,none⟩)):=(World.cell?_alloc_past _ _ _ (by simpa using hp)).trans ((World.cell?_setCell_other _ _ _ _ (by simp)).trans c0);have d7:((w.setCell ⟨p,4,none⟩ (.bool true)).alloc (.cells #[.iface T (.pointer (some ⟨p,0,none⟩))] 94)).cell? ⟨p,7,none⟩=some (.int .i64 rv):=(World.cell?_alloc_past _ _ _ (by simpa using hp)).trans ((World.cell?_setCell_other _ _ _ _ (by simp)).trans c7);have dr:((w.setCell ⟨p,4,none⟩ (.bool true)).alloc (.cells #[.iface T (.pointer (some ⟨p,0,none⟩))] 94)).cell? ⟨bs,1,none⟩=some (.int .i64 rv):=(World.cell?_alloc_past _ _ _ (by simpa using hb)).trans ((World.cell?_setCell_other _ _ _ _ (by simp[hne.symm])).trans hr);have d10:((w.setCell ⟨p,4,none⟩ (.bool true)).alloc (.cells #[.iface T (.pointer (some ⟨p,0,none⟩))] 94)).cell? ⟨p,10,none⟩=some (.int .i64 pl):=(World.cell?_alloc_past _ _ _ (by simpa using hp)).trans ((World.cell?_setCell_other _ _ _ _ (by simp)).trans h10);clear h10;clear c0 c4 c7 hf f4 e4 ef4 hbl m1 m2 hr;go_wp2_with fail
 refine (q9 p bs rv _ d0 d7 dr).mono ?_;rintro e w3⟨rfl,rfl⟩;clear d0 d7 dr;go_wp2_with fail
 refine (iH p pl _ d10).mono ?_;rintro e w3⟨rfl,rfl⟩;rw[hpl];clear d10;go_wp2_with fail
 have m8:=hM.leave;have m9:=hM.nleave;refine HW.mono ?_;rintro e w4⟨rfl,hq⟩;have HQ4:=hid hq;obtain⟨l4,l5,g4,g5,lb⟩:=hQ _ hq;clear hq;go_wp2_with fail
 refine leaves_cons (f:=117) (args:=#[.pointer (some ⟨w.heap.size,0,none⟩)]) (by simp) (by simp[go_sem]) ?_;refine (iK T F hM p w.heap.size _ w4 lb l5).mono ?_;rintro e u' w5⟨rfl,rfl,rfl⟩;refine leaves_cons (f:=224) (args:=#[.pointer (some ⟨p,0,none⟩)]) (by simp[settle]) (by simp[go_sem,m8,m9]) ?_;refine (dB p _ _ true false l4 l5 g4 g5).mono ?_;rintro e u' w6⟨rfl,rfl,rfl⟩;exact⟨_,results_none rfl _ _ _,rfl,_,HQ4.out,rfl⟩
theorem JB(T:TypeId)(F:FuncId)(hM:MT T F)(p:Nat)(z:Int)(fl nm:ByteArray)(b:Bool)(w:World)(c1:w.cell? ⟨p,1,none⟩=some (.int .i64 z))(c2:w.cell? ⟨p,2,none⟩=some (.string fl))(c3:w.cell? ⟨p,3,none⟩=some (.string nm))(c4:w.cell? ⟨p,4,none⟩=some (.bool true))(c5:w.cell? ⟨p,5,none⟩=some (.bool b))(g5:w.frozen? ⟨p,5,none⟩=false)(hp:p<w.heap.size) :
 Calls Tryz.prog 87 #[.iface T (.pointer (some ⟨p,0,none⟩)),.bool true] w fun e w'=>e = .panicked [{v:=.iface 307 (.agg #[.int .i64 z,.string fl,.string nm]),recovered:=false}]/\w'=(w.setCell ⟨p,5,none⟩ (.bool true)).alloc (.cells #[.iface T (.pointer (some ⟨p,0,none⟩))] 94):=by
 have m1:=hM.enter;have m2:=hM.nenter;have hbl:=aG w (.cells #[.iface T (.pointer (some ⟨p,0,none⟩))] 94);have e1:=aK hbl c1;have e2:=aK hbl c2;have e3:=aK hbl c3;have e4:=aK hbl c4;have e5:=aK hbl c5;have ef5:(w.alloc (.cells #[.iface T (.pointer (some ⟨p,0,none⟩))] 94)).frozen? ⟨p,5,none⟩=false:=(World.frozen?_of_block (w:=w) (hbl.block p hp)).trans g5;clear c1 c2 c3 c4 c5 g5 hbl;go_enter_defers Tryz.func87,Tryz.ntmps87
 go_wp2_with fail
 refine (A3 p z fl nm b _ e1 e2 e3 e4 e5 ef5).mono ?_;rintro e w1⟨rfl,rfl⟩;go_wp2_with fail
 exact⟨rfl,rfl⟩
theorem DJ{st:St V}{L:aM}{lp:Option K}{bs:Nat}{fm:Value}{w:World}(h:bN st L lp bs fm w){k:K}{m:bU V}(hk:st.sl k=some m)(h2:k.kind≠2)(h3:k.kind≠3)(h4:k.kind≠4)(hlen:st.kept.length<cD)(hnk:k∉st.kept)(v:V)(x:ByteArray)(la:Option Addr)(ln lc:Nat)
 (hval:bO L.own w k.kind (some v) [.string x]) :
 Calls Tryz.prog 228 #[ptr (L.bk k),.string x,.slice la ln lc] w (jB st L lp bs fm k v w):=by
 obtain⟨q,sm,bg,kv,arr,h⟩:=h;have hc:=h.cell k m hk;obtain⟨x0,vs,sb,hval0⟩:=hc.ex;have hsh:=dN hval0;obtain⟨y,hvs⟩:∃y,vs = [.string y]:=by simpa[bO,h2,h3,h4] using hsh
 have hTB:TB k=175:=by simp[TB,h2,h3,h4]
 have hTI:TI k=165:=by simp[TI,h2,h3,h4]
 obtain⟨rs,hrs⟩:∃rs,rs=cF k.kind:=⟨_,rfl⟩
 have hru:cB bs k.kind = [.func (.func rs) #[ptr bs] #[],.func (.func 89) #[] #[],.string (if k.kind=7 then dA else bA)]:=by simp[cB,h2,h3,h4,hrs]
 subst hvs;have hform:∀(m':bU V) (x:Jb) (vs:List Value),aX bs k m' (decide (lp=some k)) x (kA arr k) vs = .pointer (some ⟨bs,1,none⟩)::.int .i64 k.kind::.string k.file::.string k.name::.bool m'.act::.bool (decide (lp=some k))::.slice x.la x.ln x.lc::wK m'.ver::.int .i64 x.ch::.bool x.fk::.int .i64 (kA arr k)::.int .u64 m'.used::.func (.func rs) #[ptr bs] #[]::.func (.func 89) #[] #[]::.string (if k.kind=7 then dA else bA)::vs:=fun m' x vs=>by simp[aX,hru]
 rw[hform,hTB] at sb;have c1:w.cell? ⟨bs,1,none⟩=some (.int .i64 st.rev):=aA (i:=1) h.s;have d0:=sb.cell (i:=0) rfl;have d6:=sb.cell (i:=6) rfl;have d7:=sb.cell (i:=7) rfl;have d8:=sb.cell (i:=8) rfl;have d9:=sb.cell (i:=9) rfl;have d10:=sb.cell (i:=10) rfl;have d15:=sb.cell (i:=15) rfl;have g6:=sb.fr 6;have g7:=sb.fr 7;have g8:=sb.fr 8;have g9:=sb.fr 9;have g15:=sb.fr 15;have FIN:∀(w0 W:World),Below w.heap.size w w0->One (L.bk k) w0 W->SB W (L.bk k) 175 [.pointer (some ⟨bs,1,none⟩),.int .i64 k.kind,.string k.file,.string k.name,.bool m.act,.bool (decide (lp=some k)),.slice la ln lc,.int .i64 st.rev,.int .i64 st.rev,.bool false,.int .i64 (kA arr k),.int .u64 m.used,.func (.func rs) #[ptr bs] #[],.func (.func 89) #[] #[],.string (if k.kind=7 then dA else bA),.string x]->Calls Tryz.prog 118 #[.iface 165 (ptr (L.bk k))] W (jB st L lp bs fm k v w):=fun w0 W hb ho hsb=>by
  have:=h.ansUse hk hlen hnk (v:=v) (x:=⟨la,ln,lc,st.rev,false⟩) (vs:=[.string x]) hb ho (by
   rw[hTB,hform];simpa[gK,wK] using hsb) hval
  rwa[aY,hTI] at this
 have FIN:=hid FIN;have hin:k∉arr:=fun e=>hnk (h.perm.mem_iff.1 e);have hpl:kA arr k = -1:=by simp[kA,hin]
 have hlt:=aB sb;have hlb:=aB h.s;have hbp:bs≠L.bk k:=fun e=>by
  have:=h.s;rw[e,sb] at this;injection this with this;injection this with _ this;exact absurd this (by decide)
 generalize L.bk k=p at *;have HS:=hid sb;rw[hpl] at d10 HS FIN;clear h hc hval hval0 hsh hform hpl hin sb hk hTB hTI hru hrs hnk hlen;go_enter Tryz.func228,Tryz.ntmps228;go_wp2_with fail
 go_quiet ((go_at_call 222;refine Calls.quiet_of_same (DI p _ d10)))
 go_wp2_with fail
 refine (FIN.out _ _ (below_drewN w nq) ((((((One.setCell _ p 8 _).trans (One.setCell _ p 15 _)).trans (One.setCell _ p 6 _)).trans (One.setCell _ p 7 _)).trans (One.setCell _ p 9 _))) ((((((show SB (w.drewN nq) p _ _ from HS.out).set 8 _).set 15 _).set 6 _).set 7 _).set 9 _)).mono ?_;rintro e w1⟨rfl,hp⟩;have HP:=hid hp;clear hp;go_wp2;go_end0
 exact⟨rfl,HP.out⟩
theorem uF{st:St V}{k:K}{m:bU V}(hk:st.sl k=some m):st.put k m=st:=by
 have:(fun j=>if j=k then some m else st.sl j)=st.sl:=by
  funext j;by_cases hj:j=k
  . subst hj;simp[hk]
  . simp[hj]
 unfold St.put;rw[this]
theorem cV.aux{st:St V}{L:aM}{lp lp':Option K}{bs:Nat}{fm q sm bg kv:Value}{arr:List K}{w:World}(h:cV st L lp bs fm q sm bg kv arr w){k:K}{m m':bU V}(hk:st.sl k=some m)(i:Nat)(v:Value)
 (hc:∀x pl vs,∃x',(aX bs k m (decide (lp=some k)) x pl vs).set i v=aX bs k m' (decide (lp'=some k)) x' pl vs) (hv:m'.val=m.val) (hu:m'.used=m.used) (hlp:∀j,j≠k->(decide (lp'=some j)=decide (lp=some j))):cV (st.put k m') L lp' bs fm q sm bg kv arr (w.setCell ⟨L.bk k,i,none⟩ v):=by
 have hc0:=h.cell k m hk;obtain⟨x,vs,a,c⟩:=hc0.ex;obtain⟨x',hx⟩:=hc x (kA arr k) vs;refine⟨h.slot hk (fun b hb=>aD hb v) (by simp) ⟨x',vs,?_,by rw[hv];exact c⟩ hlp,by rw[tR hk hu];exact h.heap⟩;rw[<-hx];have:=aH (i:=i) a v
 simpa[SB] using this
theorem bN.fick{st:St V}{L:aM}{lp:Option K}{bs:Nat}{fm:Value}{w:World}(h:bN st L lp bs fm w){k:K}(hk:st.sl k≠none):bN st L lp bs fm (w.setCell ⟨L.bk k,9,none⟩ (.bool true))/\FR L.own w (w.setCell ⟨L.bk k,9,none⟩ (.bool true)):=by
 obtain⟨q,sm,bg,kv,arr,h⟩:=h;obtain⟨m,hm⟩:=Option.ne_none_iff_exists'.1 hk;have:=h.aux (m':=m) (lp':=lp) hm 9 (.bool true) (fun x pl vs=>⟨{x with fk:=true},rfl⟩) rfl rfl fun _ _=>rfl
 rw[uF hm] at this;exact⟨⟨q,sm,bg,kv,arr,this⟩,(FR.refl _ _).setCell _ (.inl (h.cell k m hm).own) _⟩
theorem bN.sl{st:St V}{L:aM}{lp:Option K}{bs:Nat}{fm:Value}{w:World}(h:bN st L lp bs fm w){k:K}{m:bU V}(hk:st.sl k=some m):∃x pl vs,SB w (L.bk k) (TB k) (aX bs k m (decide (lp=some k)) x pl vs)/\bO L.own w k.kind m.val vs/\L.own (L.bk k)/\(k∉st.kept->pl = -1)/\(k∈st.kept->(pl == -1)=false):=by
 obtain⟨q,sm,bg,kv,arr,h⟩:=h;have hc:=h.cell k m hk;obtain⟨x,vs,a,b⟩:=hc.ex;refine⟨x,_,vs,a,b,hc.own,fun e=>?_,fun e=>?_⟩
 . have:k∉arr:=fun e'=>e (h.perm.mem_iff.1 e')
   simp[kA,this]
 . have:k∈arr:=h.perm.mem_iff.2 e
   rw[sQ this,beq_eq_false_iff_ne];omega
theorem En{st st':St V}{k:K}{v:V}(h:answer st k v=some st'):st'.sl k≠none:=by
 unfold answer at h;split at h
 . cases h
 . split at h
   . cases h
     simp[St.use,St.put]
   . cases h
theorem Next.lift{st st':St V}{L L':aM}{w wx w':World}(hb:Below w.heap.size w wx)(h:Next st st' L L' wx w'):Next st st' L L' w w':=
 ⟨h.bk,h.sb,fun b hb2=>(h.own b hb2).imp id fun x=>Nat.le_trans hb.size x,(FR.of_below hb).trans h.fr fun i hi=>.inl hi⟩
theorem Next.then{st st':St V}{L L':aM}{w w1 w2:World}(h:Next st st' L L' w w1)(hf:FR L'.own w1 w2):Next st st' L L' w w2:=
 ⟨h.bk,h.sb,h.own,h.fr.trans hf fun i hi=>h.own i hi⟩
theorem bN.below{st:St V}{L:aM}{lp:Option K}{bs:Nat}{fm:Value}{w w':World}(h:bN st L lp bs fm w)(hb:Below w.heap.size w w'):bN st L lp bs fm w':=by
 obtain⟨q,sm,bg,kv,arr,h⟩:=h;exact⟨q,sm,bg,kv,arr,h.below hb⟩
theorem Gw{st st':St V}{L:aM}{lp:Option K}{bs:Nat}{fm:Value}{w:World}(h:bN st L lp bs fm w){k:K}(h7:k.kind=7)(ha:answer st k (.s dA)=some st') :
 Calls Tryz.prog 225 #[ptr (L.bk k)] w fun e w'=>e = .returned (.tuple #[])/\∃L',bN st' L' lp bs fm w'/\Next st st' L L' w w':=by
 obtain⟨m,hk,hl,hnk⟩:∃m,st.sl k=some m/\st.kept.length<cD/\k∉st.kept:=by
  unfold answer at ha;split at ha
  . cases ha
  . split at ha
    . rename_i m hm hc
      exact⟨m,hm,hc.1,hc.2⟩
    . cases ha
 obtain⟨x,pl,vs,sb,_⟩:=h.sl hk;have d14:w.cell? ⟨L.bk k,14,none⟩=some (.string dA):=sb.cell (i:=14) (by simp[aX,cB,h7]);have HAN:Hid (∀wx,Below w.heap.size w wx->Calls Tryz.prog 228 #[ptr (L.bk k),.string dA,.slice none 0 0] wx fun e w'=>e = .returned (.tuple #[])/\(w'.frozen? ⟨L.bk k,9,none⟩=false/\∃y,w'.cell? ⟨L.bk k,9,none⟩=some (.bool y))/\∃L',bN st' L' lp bs fm (w'.setCell ⟨L.bk k,9,none⟩ (.bool true))/\Next st st' L L' w (w'.setCell ⟨L.bk k,9,none⟩ (.bool true))):=hid fun wx hb=>by
  have hx:=h.below hb;refine (DJ hx hk (by omega) (by omega) (by omega) hl hnk (.s dA) dA none 0 0 ⟨by omega,by omega,by omega,rfl⟩).mono ?_;rintro e w'⟨he,st2,L',ha2,hE,hN⟩;rw[ha] at ha2;cases ha2;have hbk:=(hN.bk k (by rw[hk];simp)).2;have hne:=En ha;obtain⟨m2,hm2⟩:=Option.ne_none_iff_exists'.1 hne;obtain⟨x2,pl2,vs2,sb2,_⟩:=hE.sl hm2;rw[hbk] at sb2;have hf:=hE.fick hne;rw[hbk] at hf;exact⟨he,⟨sb2.fr 9,_,sb2.cell (i:=9) rfl⟩,L',hf.1,(hN.then hf.2).lift hb⟩
 clear h ha hk hl hnk sb;go_enter Tryz.func225,Tryz.ntmps225;go_wp2_with fail
 refine (HAN.out w (Below.refl _ _)).mono ?_;rintro e w1⟨rfl,⟨g9,y,d9⟩,hR⟩;have HR:=hid hR;clear hR HAN;go_wp2;go_end0
 exact⟨rfl,HR.out⟩
end Go.Proofs.YthibodlojlkppaaGreatDoor
namespace Go.Proofs.YthibodlojlkppaaGreatDoor
variable [DecidableEq K] [LawfulBEq Lk]
section
variable {V:Type}
theorem sT(acc l:List Lk):acc.length<=(Cd acc l).length/\(Cd acc l).length<=acc.length+l.length:=by
 induction l generalizing acc with
 | nil=>simp[Cd]
 | cons y l ih=>
  cases y with
  | inl f=>
   have:=ih (acc ++ [.src f])
   simp[Cd] at this ⊢;omega
  | inr k=>
   rw[Cd];split
   . have:=ih acc;simp at this ⊢;omega
   . have:=ih (acc ++ [.slot k]);simp at this ⊢;omega
theorem countP_le{α:Type}{p q:α->Bool}:∀(l:List α),(∀x∈l,p x=true->q x=true)->l.countP p<=l.countP q
 | [],_=>by simp
 | x::l,h=>by
  have ih:=countP_le l fun y hy=>h y (List.mem_cons_of_mem _ hy);have hx:=h x (by simp);rw[List.countP_cons,List.countP_cons];cases hp:p x with
  | false=>simp;split <;> omega
  | true=>simp[hx hp];exact ih
theorem qD{α:Type}{p q:α->Bool}:∀(l:List α),(∀x∈l,p x=true->q x=true)->∀k∈l,p k=false->q k=true->l.countP p<l.countP q
 | [],_,k,hk,_,_=>by simp at hk
 | x::l,h,k,hk,h1,h2=>by
  rw[List.countP_cons,List.countP_cons];rcases List.mem_cons.1 hk with rfl|hk
  . have ih:=countP_le l fun y hy=>h y (List.mem_cons_of_mem _ hy)
    simp[h1,h2];omega
  . have ih:=qD l (fun y hy=>h y (List.mem_cons_of_mem _ hy)) k hk h1 h2
    have hx:=h x (by simp);cases hp:p x with
    | false=>simp;split <;> omega
    | true=>simp[hx hp];exact ih
def rk(k:K):Nat:=if k.kind=1 then 0 else if k.kind=2 then 0 else if k.kind=3 then 1 else if k.kind=4 then 2 else if k.kind=5 then 3 else if k.kind=6 then 4 else if k.kind=7 then 5 else 6
theorem Gx{k:K}:rk k=5↔k.kind=7:=by
 unfold rk;repeat' split
 all_goals omega
theorem Reach.snoc{F:ByteArray->Option ByteArray}{a:K->V}{wp:K->Prog V}{k j:K}(h:Reach F a wp k j){c:K}(hj:Lk.slot c∈qs F a (wp j)):Reach F a wp k c:=
 Reach.ind (P:=fun k j=>Lk.slot c∈qs F a (wp j)->Reach F a wp k c) (fun k hj=>.step hj (.here _)) (fun k j c h1 _ ih hj=>.step h1 (ih hj)) h hj
end
section
variable {V:Type}
def e9(st:St V)(k:K):Prop:=∃m,st.sl k=some m/\m.act=true
theorem lS{st:St V}{j k:K}{m:bU V}(h:e9 st k)(hm:k=j->m.act=true):e9 (st.put j m) k:=by
 obtain⟨n,h1,h2⟩:=h;by_cases hj:k=j
 . exact⟨m,by simp[St.put,hj],hm hj⟩
 . exact⟨n,by simp[St.put,hj,h1],h2⟩
theorem uG{st:St V}{j k:K}(h:e9 st k):e9 (st.find j) k:=by
 unfold St.find;split
 . exact h
 . rename_i hn
   refine lS h fun e=>?_;obtain⟨n,h1,_⟩:=h;rw[e,hn] at h1;cases h1
theorem Ct{st:St V}{f:ByteArray}{k:K}(h:e9 st k):e9 (st.source f) k:=by
 unfold St.source;split
 . exact h
 . exact h
theorem DK{st:St V}{j k:K}(h:e9 st k):e9 (st.use j) k:=by
 unfold St.use;split
 . exact h
 . rename_i m hm
   have:e9 (st.put j {m with used:=(st.uses+1) % j9}) k:=lS h fun e=>by
    obtain⟨n,h1,h2⟩:=h;rw[e,hm] at h1;cases h1;exact h2
   exact this
theorem oR{st st':St V}{j k:K}{v:V}(ha:answer st j v=some st')(h:e9 st k):e9 st' k:=by
 unfold answer at ha;split at ha
 . cases ha
 . rename_i m hm
   split at ha
   . cases ha
     refine DK (lS h fun e=>?_);obtain⟨n,h1,h2⟩:=h;rw[e,hm] at h1;cases h1;exact h2
   . cases ha
structure gG (E:eF V):Prop where
 act:∀j st out st',E j st=some (out,st')->∀k,e9 st k->e9 st' k
 cyc:∀j st c st',E j st=some (.cyc c,st')->c.kind=7/\j.kind=7
 fil:∀j st out st',E j st=some (out,st')->st'.files=st.files
theorem mW(st:St V)(k:K):(st.find k).files=st.files:=by unfold St.find;split <;> rfl
theorem oS(st:St V)(f:ByteArray):(st.source f).files=st.files:=by unfold St.source;split <;> rfl
theorem DL(st:St V)(k:K):(st.use k).files=st.files:=by unfold St.use;split <;> rfl
theorem qE(st:St V)(k:K):(st.leave k).files=st.files:=by unfold St.leave;split <;> rfl
theorem uH{st st':St V}{k:K}{v:V}(h:answer st k v=some st'):st'.files=st.files:=by
 unfold answer at h;split at h
 . cases h
 . split at h
   . cases h;rw[DL];rfl
   . cases h
theorem pH{E:eF V}{nc:Bool}{j:K}{lk:List Lk}{st:St V}{r:Out (V×List Lk)×St V}(h:cE E nc j lk st=some r):j.file.size<=cD/\j.name.size<=cD:=by
 unfold cE at h;split at h
 . cases h
 . omega
theorem jO{E:eF V}(hE:∀j st out st',E j st=some (out,st')->st'.files=st.files){nc:Bool}{j:K}{lk:List Lk}{st:St V}{out:Out (V×List Lk)}{st':St V}(h:cE E nc j lk st=some (out,st')):st'.files=st.files:=by
 unfold cE at h;split at h
 . cases h
 split at h
 . obtain⟨v,_,e⟩:=Option.map_eq_some_iff.1 h
   cases e;exact mW _ _
 . split at h
   . rename_i st2 he
     split at h
     . obtain⟨v,_,e⟩:=Option.map_eq_some_iff.1 h
       cases e;exact (hE _ _ _ _ he).trans (mW _ _)
     . cases h
   . rename_i c st2 he
     split at h
     . cases h
     . cases h
       exact (hE _ _ _ _ he).trans (mW _ _)
   . cases h
theorem sU{E:eF V}(hE:∀j st out st',E j st=some (out,st')->st'.files=st.files){nc:Bool}:∀(p:Prog V) (lk:List Lk) (st:St V) (out:Out (V×List Lk)) (st':St V),run E nc p lk st=some (out,st')->st'.files=st.files
 | ⟨.inl v,_⟩,lk,st,out,st',h=>by cases h;rfl
 | ⟨.inr (.inl _),_⟩,lk,st,out,st',h=>by cases h
 | ⟨.inr (.inr (.inl f)),c⟩,lk,st,out,st',h=>by
  simp only[run] at h;split at h
  . exact (sU hE _ _ _ _ _ h).trans (oS _ _)
  . cases h
 | ⟨.inr (.inr (.inr j)),c⟩,lk,st,out,st',h=>by
  simp only[run] at h;split at h
  . rename_i v lk' st2 he
    exact (sU hE _ _ _ _ _ h).trans (jO hE he)
  . rename_i c' st2 he
    cases h;exact jO hE he
  . cases h
theorem rA{wp:K->Prog V}{E:eF V}(hE:∀j st out st',E j st=some (out,st')->st'.files=st.files){j:K}{st st':St V}{out:Out Unit}(h:workOut wp E j st=some (out,st')):st'.files=st.files:=by
 unfold workOut at h;split at h
 . split at h
   . rename_i v lk st2 he
     obtain⟨s,hs,e⟩:=Option.map_eq_some_iff.1 h;cases e;exact (uH hs).trans ((sU hE _ _ _ _ _ he).trans rfl)
   . rename_i c st2 he
     cases h;exact (sU hE _ _ _ _ _ he).trans rfl
   . cases h
 . cases h
theorem qF{wp:K->Prog V}{E:eF V}(hE:∀j st out st',E j st=some (out,st')->st'.files=st.files){j:K}{st st':St V}{out:Out Unit}(h:inner wp E j st=some (out,st')):st'.files=st.files:=by
 unfold inner at h;split at h
 . cases h
 . split at h
   . split at h
     . cases h
       exact DL _ _
     . exact rA hE h
   . split at h
     . exact rA hE h
     . cases h
theorem A4{wp:K->Prog V}{lp:V}{E:eF V}(hE:∀j st out st',E j st=some (out,st')->st'.files=st.files):∀j st out st',dK wp lp E j st=some (out,st')->st'.files=st.files:=by
 intro j st out st' h;unfold dK at h;split at h
 . cases h
 . rename_i m hm
   split at h
   . split at h
     . cases h
     . cases h;rfl
   . split at h
     . cases h
     . rename_i st2 he
       cases h;exact (qE _ _).trans ((qF hE he).trans rfl)
     . rename_i c st2 he
       split at h
       . obtain⟨s,hs,e⟩:=Option.map_eq_some_iff.1 h
         cases e;exact (qE _ _).trans ((uH hs).trans ((qF hE he).trans rfl))
       . split at h
         . cases h
         . cases h
           exact (qE _ _).trans ((qF hE he).trans rfl)
theorem A5{E:eF V}(hE:gG E){nc:Bool}{j:K}{lk:List Lk}{st:St V}{out:Out (V×List Lk)}{st':St V}(h:cE E nc j lk st=some (out,st')){k:K}(hk:e9 st k):e9 st' k/\∀c,out = .cyc c->c.kind=7/\nc=false:=by
 unfold cE at h;split at h
 . cases h
 split at h
 . obtain⟨v,_,e⟩:=Option.map_eq_some_iff.1 h
   cases e;exact⟨uG hk,fun c e=>by cases e⟩
 . split at h
   . rename_i st2 he
     split at h
     . obtain⟨v,_,e⟩:=Option.map_eq_some_iff.1 h
       cases e;exact⟨hE.act _ _ _ _ he k (uG hk),fun c e=>by cases e⟩
     . cases h
   . rename_i c st2 he
     split at h
     . cases h
     . rename_i hh
       cases h;refine⟨hE.act _ _ _ _ he k (uG hk),fun c' e=>?_⟩;cases e;exact⟨(hE.cyc _ _ _ _ he).1,by cases nc <;> simp_all⟩
   . cases h
theorem sV{E:eF V}(hE:gG E){nc:Bool}{k:K}:∀(p:Prog V) (lk:List Lk) (st:St V) (out:Out (V×List Lk)) (st':St V),run E nc p lk st=some (out,st')->e9 st k->e9 st' k/\∀c,out = .cyc c->c.kind=7/\nc=false
 | ⟨.inl v,_⟩,lk,st,out,st',h,hk=>by
  cases h;exact⟨hk,fun c e=>by cases e⟩
 | ⟨.inr (.inl _),_⟩,lk,st,out,st',h,hk=>by cases h
 | ⟨.inr (.inr (.inl f)),c⟩,lk,st,out,st',h,hk=>by
  simp only[run] at h;split at h
  . exact sV hE _ _ _ _ _ h (Ct hk)
  . cases h
 | ⟨.inr (.inr (.inr j)),c⟩,lk,st,out,st',h,hk=>by
  simp only[run] at h;split at h
  . rename_i v lk' st2 he
    exact sV hE _ _ _ _ _ h (A5 hE he hk).1
  . rename_i c' st2 he
    cases h;have:=A5 hE he hk
    exact⟨this.1,fun c e=>by cases e;exact this.2 _ rfl⟩
  . cases h
theorem rB{wp:K->Prog V}{E:eF V}(hE:gG E){j k:K}{st st':St V}{out:Out Unit}(h:workOut wp E j st=some (out,st'))(hk:e9 st k):e9 st' k/\∀c,out = .cyc c->c.kind=7/\j.kind=7:=by
 unfold workOut at h;split at h
 . split at h
   . rename_i v lk st2 he
     obtain⟨s,hs,e⟩:=Option.map_eq_some_iff.1 h;cases e;exact⟨oR hs (sV hE _ _ _ _ _ he hk).1,fun c e=>by cases e⟩
   . rename_i c st2 he
     cases h;have:=sV (k:=k) hE _ _ _ _ _ he hk
     refine⟨this.1,fun c e=>?_⟩;cases e;obtain⟨h1,h2⟩:=this.2 _ rfl;exact⟨h1,by simpa using h2⟩
   . cases h
 . cases h
theorem kY{wp:K->Prog V}{E:eF V}(hE:gG E){j k:K}{st st':St V}{out:Out Unit}(h:inner wp E j st=some (out,st'))(hk:e9 st k):e9 st' k/\∀c,out = .cyc c->c.kind=7/\j.kind=7:=by
 unfold inner at h;split at h
 . cases h
 . split at h
   . split at h
     . cases h
       exact⟨DK hk,fun c e=>by cases e⟩
     . exact rB hE h hk
   . split at h
     . exact rB hE h hk
     . cases h
theorem qG{st:St V}{j k:K}(h:e9 st k)(hjk:k≠j):e9 (st.leave j) k:=by
 unfold St.leave;split
 . exact h
 . exact lS h fun e=>absurd e hjk
theorem A6{wp:K->Prog V}{lp:V}{E:eF V}(hE:gG E):gG (dK wp lp E):=by
 have key:∀j st out st',dK wp lp E j st=some (out,st')->(∀k,e9 st k->e9 st' k)/\∀c,out = .cyc c->c.kind=7/\j.kind=7:=by
  intro j st out st' h;unfold dK at h;split at h
  . cases h
  . rename_i m hm
    split at h
    . split at h
      . cases h
      . rename_i h7
        cases h;simp at h7;exact⟨fun k hk=>hk,fun c e=>by cases e;exact⟨h7,h7⟩⟩
    . rename_i ha
      have hne:∀k,e9 st k->k≠j:=fun k hk e=>by
       obtain⟨n,h1,h2⟩:=hk;rw[e,hm] at h1;cases h1;exact ha h2
      have hjj:e9 (st.put j {m with act:=true}) j:=⟨_,by simp[St.put];rfl,rfl⟩
      split at h
      . cases h
      . rename_i st2 he
        cases h;exact⟨fun k hk=>qG (kY hE he (lS hk fun e=>rfl)).1 (hne k hk),fun c e=>by cases e⟩
      . rename_i c st2 he
        have hc:=(kY hE he hjj).2 c rfl;split at h
        . obtain⟨s,hs,e⟩:=Option.map_eq_some_iff.1 h
          cases e;exact⟨fun k hk=>qG (oR hs (kY hE he (lS hk fun e=>rfl)).1) (hne k hk),fun c e=>by cases e⟩
        . split at h
          . cases h
          . cases h
            exact⟨fun k hk=>qG (kY hE he (lS hk fun e=>rfl)).1 (hne k hk),fun c e=>by cases e;exact hc⟩
 exact⟨fun j st out st' h=>(key j st out st' h).1,fun j st c st' h=>(key j st _ st' h).2 c rfl,A4 hE.fil⟩
theorem kZ{wp:K->Prog V}{lp:V}:∀n,gG (pC wp lp n)
 | 0=>⟨fun _ _ _ _ h=>(by cases h),fun _ _ _ _ h=>(by cases h),fun _ _ _ _ h=>(by cases h)⟩
 | n+1=>A6 (kZ n)
end
end Go.Proofs.YthibodlojlkppaaGreatDoor
namespace Go.Proofs.YthibodlojlkppaaGreatDoor
open Go.RowKit
variable [DecidableEq K] [LawfulBEq Lk]
def dL(st:St V)(L:aM)(bs:Nat)(fm:Value)(out:Out Unit)(st':St V)(w:World):Ending->World->Prop:=fun e w'=>
 ∃L',Next st st' L L' w w'/\match out with
  | .ok _=>e = .returned (.tuple #[])/\bN st' L' none bs fm w'
  | .error c=>e = .panicked (oQ c)/\c.kind=7/\bN st' L' (some c) bs fm w'
def Cu(kind:Nat):FuncId:=if kind=2 then 233 else if kind=3 then 238 else if kind=4 then 243 else 227
def La(kind:Nat):FuncId:=if kind=2 then 232 else if kind=3 then 237 else if kind=4 then 242 else 225
theorem DM(k:K):MT (TI k) (Cu k.kind):=by
 unfold TI Cu;repeat' split
 . exact OR
 . exact OS
 . exact OT
 . exact OQ
theorem O9:LT 165 225:=⟨fun _ _=>by kernel_rfl,fun _ _=>by kernel_rfl,fun _ _=>by kernel_rfl⟩
theorem Pa:LT 178 232:=⟨fun _ _=>by kernel_rfl,fun _ _=>by kernel_rfl,fun _ _=>by kernel_rfl⟩
theorem Pb:LT 184 237:=⟨fun _ _=>by kernel_rfl,fun _ _=>by kernel_rfl,fun _ _=>by kernel_rfl⟩
theorem Pc:LT 189 242:=⟨fun _ _=>by kernel_rfl,fun _ _=>by kernel_rfl,fun _ _=>by kernel_rfl⟩
theorem KM(k:K):LT (TI k) (La k.kind):=by
 unfold TI La;repeat' split
 . exact Pa
 . exact Pb
 . exact Pc
 . exact O9
def sA(W0:World)(E:eF V)(bs:Nat)(fm:Value):Prop:=∀(st:St V) (L:aM) (w:World) (k:K) (out:Out Unit) (st':St V),bN st L none bs fm w->FM W0 st.files L fm w->st.sl k≠none->E k st=some (out,st')->
 Calls Tryz.prog 87 #[aY L k,.bool true] w (dL st L bs fm out st' w)
def OU(W0:World)(wp:K->Prog V)(E:eF V)(bs:Nat)(fm:Value):Prop:=∀(st:St V) (L:aM) (w:World) (k:K) (out:Out Unit) (st':St V),bN st L none bs fm w->FM W0 st.files L fm w->st.sl k≠none->Go.Proofs.YthibodlojlkppaaGreatDoor.workOut wp E k st=some (out,st')->
 Calls Tryz.prog (Cu k.kind) #[ptr (L.bk k)] w (dL st L bs fm out st' w)
theorem cV.act{st:St V}{L:aM}{lp:Option K}{bs:Nat}{fm q sm bg kv:Value}{arr:List K}{w:World}(h:cV st L lp bs fm q sm bg kv arr w){k:K}{m:bU V}(hk:st.sl k=some m)(b:Bool):cV (st.put k {m with act:=b}) L lp bs fm q sm bg kv arr (w.setCell ⟨L.bk k,4,none⟩ (.bool b)):=
 h.set (m':={m with act:=b}) (lp':=lp) hk 4 (.bool b) (fun _ _ _=>rfl) rfl rfl fun _ _=>rfl
theorem bN.leave{st:St V}{L:aM}{lp:Option K}{bs:Nat}{fm:Value}{w:World}(h:bN st L lp bs fm w){k:K}(hk:st.sl k≠none):bN (st.leave k) L (if lp=some k then none else lp) bs fm ((w.setCell ⟨L.bk k,4,none⟩ (.bool false)).setCell ⟨L.bk k,5,none⟩ (.bool false))/\Next st (st.leave k) L L w ((w.setCell ⟨L.bk k,4,none⟩ (.bool false)).setCell ⟨L.bk k,5,none⟩ (.bool false)):=by
 obtain⟨q,sm,bg,kv,arr,h⟩:=h;obtain⟨m,hm⟩:=Option.ne_none_iff_exists'.1 hk;have e:st.leave k=st.put k {m with act:=false}:=by simp[St.leave,hm]
 have h1:=h.act hm false;have hm1:(st.put k {m with act:=false}).sl k=some {m with act:=false}:=by simp[St.put]
 have h2:=h1.set (m':={m with act:=false}) (lp':=if lp=some k then none else lp) hm1 5 (.bool false) (fun x pl vs=>by
  have:decide ((if lp=some k then none else lp)=some k)=false:=by
   split
   . simp
   . rename_i hh;simp[hh]
  rw[this];rfl) rfl rfl fun j hj=>by
   split
   . rename_i hh;rw[hh];simp[Ne.symm hj]
   . rfl
 rw[uF hm1] at h2;rw[e];refine⟨⟨q,sm,bg,kv,arr,h2⟩,Next.put ?_⟩;have ho:=(h.cell k m hm).own;exact ((FR.refl L.own w).setCell ⟨L.bk k,4,none⟩ (.inl ho) _).setCell ⟨L.bk k,5,none⟩ (.inl ho) _
theorem SB.slotcells{w:World}{p:Nat}{k:K}{bs:Nat}{m:bU V}{lp:Bool}{x:Jb}{pl:Int}{vs:List Value}(h:SB w p (TB k) (aX bs k m lp x pl vs)) :
 w.cell? ⟨p,4,none⟩=some (.bool m.act)/\w.cell? ⟨p,5,none⟩=some (.bool lp)/\w.frozen? ⟨p,4,none⟩=false/\w.frozen? ⟨p,5,none⟩=false:=⟨h.cell (i:=4) rfl,h.cell (i:=5) rfl,h.fr 4,h.fr 5⟩
theorem DN{st:St V}{L L':aM}{lp:Option K}{bs sb:Nat}{fm:Value}{w:World}(h:bN st L' lp bs fm w){k:K}(hk:e9 st k)(hb:L'.bk k=L.bk k)(hbox:w.cell? ⟨sb,0,none⟩=some (.iface (TI k) (.pointer (some ⟨L.bk k,0,none⟩)))):LV (L.bk k) sb (TI k) (decide (lp=some k)) w:=by
 obtain⟨m,hm,ha⟩:=hk;obtain⟨x,pl,vs,sb1,_⟩:=h.sl hm;rw[hb] at sb1;obtain⟨a,b,c,d⟩:=sb1.slotcells;rw[ha] at a;exact⟨a,b,c,d,hbox⟩
theorem JC{wp:K->Prog V}{E:eF V}{st0 st1:St V}{L:aM}{bs:Nat}{fm:Value}{w W1:World}{k:K}(hsl0:st0.sl k≠none)(hN1:Next st0 st1 L L w W1)(hk0:e9 st1 k)
 (hbox:W1.heap[w.heap.size]? = some (.cells #[.iface (TI k) (.pointer (some ⟨L.bk k,0,none⟩))] 94)) (hnb:¬L.own w.heap.size) {out2:Out Unit} {st2:St V} (hact:e9 st2 k) (h7:∀c,out2 = .cyc c->c.kind=7/\k.kind=7)
 {out:Out Unit} {st':St V} (hmo:∀a,out2 = .ok a->out = .ok ()/\st'=st2.leave k) (hmc:∀c,out2 = .cyc c->(c=k/\∃s,answer st2 k (.s dA)=some s/\out = .ok ()/\st'=s.leave k)\/(c≠k/\out = .cyc c/\st'=st2.leave k)) :
 (∀e w1,dL st1 L bs fm out2 st2 W1 e w1->(e = .returned (.tuple #[])/\LV (L.bk k) w.heap.size (TI k) false w1)\/∃T' pv,e = .panicked [{v:=.iface T' pv,recovered:=false}]/\(LV (L.bk k) w.heap.size (TI k) false w1\/LV (L.bk k) w.heap.size (TI k) true w1))/\
 (∀w1 T' pv,dL st1 L bs fm out2 st2 W1 (.panicked [{v:=.iface T' pv,recovered:=false}]) w1->w1.cell? ⟨L.bk k,5,none⟩=some (.bool true)->Calls Tryz.prog (La k.kind) #[.pointer (some ⟨L.bk k,0,none⟩)] w1 fun e w2=>e = .returned (.tuple #[])/\∃st3 L',answer st2 k (.s dA)=some st3/\out2 = .cyc k/\Next st0 st3 L L' w w2/\bN st3 L' (some k) bs fm w2/\e9 st3 k)/\
 (∀w1,(∃st3 L',answer st2 k (.s dA)=some st3/\out2 = .cyc k/\Next st0 st3 L L' w w1/\bN st3 L' (some k) bs fm w1/\e9 st3 k)->w1.cell? ⟨L.bk k,4,none⟩=some (.bool true)/\w1.cell? ⟨L.bk k,5,none⟩=some (.bool true)/\w1.frozen? ⟨L.bk k,4,none⟩=false/\w1.frozen? ⟨L.bk k,5,none⟩=false)/\
 (∀e w',zM (L.bk k) (dL st1 L bs fm out2 st2 W1) (fun w1=>∃st3 L',answer st2 k (.s dA)=some st3/\out2 = .cyc k/\Next st0 st3 L L' w w1/\bN st3 L' (some k) bs fm w1/\e9 st3 k) e w'->dL st0 L bs fm out st' w e w'):=by
 have hsl1:st1.sl k≠none:=by obtain⟨m,hm,_⟩:=hk0;rw[hm];simp
 have hsl2:st2.sl k≠none:=by obtain⟨m,hm,_⟩:=hact;rw[hm];simp
 have hbox2:∀{L':aM} {w1:World},Next st1 st2 L L' W1 w1->w1.cell? ⟨w.heap.size,0,none⟩=some (.iface (TI k) (.pointer (some ⟨L.bk k,0,none⟩))):=fun hN=>aA (i:=0) (hN.blk hbox hnb).1;have hbk2:∀{L':aM} {w1:World},Next st1 st2 L L' W1 w1->L'.bk k=L.bk k:=fun hN=>(hN.bk k hsl1).2;refine⟨?_,?_,?_,?_⟩
 . rintro e w1⟨L',hN,h⟩
   cases out2 with
   | ok a=>
    obtain⟨rfl,hE⟩:=h;exact .inl ⟨rfl,DN hE hact (hbk2 hN) (hbox2 hN)⟩
   | error c=>
    obtain⟨rfl,h7c,hE⟩:=h;refine .inr ⟨_,_,rfl,?_⟩;have:=DN hE hact (hbk2 hN) (hbox2 hN)
    by_cases hc:c=k
    . right;simpa[hc] using this
    . left;simpa[hc] using this
 . rintro w1 T' pv⟨L',hN,h⟩ h5
   cases out2 with
   | ok a=>exact absurd h.1 (by simp)
   | error c=>
    obtain⟨he,h7c,hE⟩:=h;have hck:c=k:=by
     have:=(DN hE hact (hbk2 hN) (hbox2 hN)).2.1
     rw[h5] at this;simp at this;exact this
    subst hck;obtain⟨st3,hs3,_⟩:∃s,answer st2 c (.s dA)=some s/\out = .ok ()/\st'=s.leave c:=by
     rcases hmc c rfl with h|h
     . exact h.2
     . exact absurd rfl h.1
    have hlo:=Gw hE h7c hs3;rw[hbk2 hN] at hlo;rw[show La c.kind=225 by simp[La,h7c]];refine hlo.mono ?_;rintro e w2⟨he2,L2,hE2,hN2⟩;exact⟨he2,st3,L2,hs3,rfl,(hN1.trans hN).trans hN2,hE2,oR hs3 hact⟩
 . rintro w1⟨st3,L',h1,h2,h3,h4,m3,hm3,ha3⟩
   obtain⟨x,pl,vs,sb,_⟩:=h4.sl hm3;have hb:=(h3.bk k hsl0).2;rw[hb] at sb;obtain⟨a,b,c,d⟩:=sb.slotcells;rw[ha3] at a;exact⟨a,by simpa using b,c,d⟩
 . rintro e w' (⟨w1,⟨L',hN,h⟩,rfl,rfl⟩|⟨w1,T',pv,⟨L',hN,h⟩,h5,rfl,rfl⟩|⟨w1,⟨st3,L',h1,h2,h3,h4,h5⟩,rfl,rfl⟩)
   . cases out2 with
     | error c=>exact absurd h.1 (by simp)
     | ok a=>
      obtain⟨rfl,rfl⟩:=hmo a rfl;have hl:=h.2.leave hsl2;rw[hbk2 hN] at hl;exact⟨L',(hN1.trans hN).trans hl.2,rfl,by simpa using hl.1⟩
   . cases out2 with
     | ok a=>exact absurd h.1 (by simp)
     | error c=>
      obtain⟨he,h7c,hE⟩:=h;have hck:c≠k:=fun e0=>by
       have:=(DN hE hact (hbk2 hN) (hbox2 hN)).2.1
       rw[h5] at this;simp[e0] at this
      obtain⟨rfl,rfl⟩:out = .cyc c/\st'=st2.leave k:=by
       rcases hmc c rfl with h|h
       . exact absurd h.1 hck
       . exact h.2
      have hl:=hE.leave hsl2;rw[hbk2 hN] at hl;refine⟨L',(hN1.trans hN).trans hl.2,he,h7c,?_⟩;have:=hl.1
      simpa[hck] using this
   . subst h2
     obtain⟨rfl,rfl⟩:out = .ok ()/\st'=st3.leave k:=by
      rcases hmc k rfl with ⟨_,s,e1,e2,e3⟩|h
      . rw[h1] at e1;cases e1
        exact⟨e2,e3⟩
      . exact absurd rfl h.1
     have hs3:st3.sl k≠none:=by obtain⟨m,hm,_⟩:=h5;rw[hm];simp
     have hl:=h4.leave hs3;rw[(h3.bk k hsl0).2] at hl;exact⟨L',h3.trans hl.2,rfl,by simpa using hl.1⟩
theorem JD{W0:World}{wp:K->Prog V}{E:eF V}{bs:Nat}{fm:Value}(hE:gG E)(hW:OU W0 wp E bs fm):sA W0 (dK wp (.s dA) E) bs fm:=by
 intro st L w k out st' hG hFM hk hm;obtain⟨m,hsl⟩:=Option.ne_none_iff_exists'.1 hk;unfold dK at hm;rw[hsl] at hm;simp only at hm;obtain⟨x,pl,vs,sb,hval,hown,hpl1,hpl2⟩:=hG.sl hsl;obtain⟨q,sm,bg,kv,arr,hx⟩:=id hG;have hp:=aB sb;have hbs:=aB hx.s;have hr:w.cell? ⟨bs,1,none⟩=some (.int .i64 st.rev):=aA (i:=1) hx.s;have hne:bs≠L.bk k:=fun e=>by
  have h1:=hx.s;rw[e,sb] at h1;injection h1 with h1;injection h1 with _ h1;exact (fU (k:=k)).1 h1
 have hnb:¬L.own w.heap.size:=fun e=>Nat.lt_irrefl _ (hx.olt _ e);have c0:w.cell? ⟨L.bk k,0,none⟩=some (.pointer (some ⟨bs,1,none⟩)):=sb.cell (i:=0) rfl;have c1:w.cell? ⟨L.bk k,1,none⟩=some (.int .i64 k.kind):=sb.cell (i:=1) rfl;have c2:w.cell? ⟨L.bk k,2,none⟩=some (.string k.file):=sb.cell (i:=2) rfl;have c3:w.cell? ⟨L.bk k,3,none⟩=some (.string k.name):=sb.cell (i:=3) rfl;have c7:w.cell? ⟨L.bk k,7,none⟩=some (wK m.ver):=sb.cell (i:=7) rfl;have c10:w.cell? ⟨L.bk k,10,none⟩=some (.int .i64 pl):=sb.cell (i:=10) rfl;obtain⟨c4,c5,g4,g5⟩:=sb.slotcells;cases ha:m.act with
 | true=>
  rw[ha] at hm c4;simp only[if_true] at hm;split at hm
  . cases hm
  . rename_i h7
    cases hm;have hk7:k.kind=7:=by simpa using h7
    refine (JB (TI k) (Cu k.kind) (DM k) (L.bk k) k.kind k.file k.name _ w c1 c2 c3 c4 c5 g5 hp).mono ?_;rintro e w'⟨rfl,rfl⟩;have h1:=hx.set (m':=m) (lp':=some k) hsl 5 (.bool true) (fun x pl vs=>by simp[aX]) rfl rfl fun j hj=>by simp[Ne.symm hj]
    rw[uF hsl] at h1;have hb:=aG (w.setCell ⟨L.bk k,5,none⟩ (.bool true)) (.cells #[.iface (TI k) (.pointer (some ⟨L.bk k,0,none⟩))] 94);refine⟨L,(Next.below ⟨fun _ h=>⟨h,rfl⟩,fun _ h=>⟨h,rfl⟩,fun _ h=>.inl h,(FR.refl _ _).setCell _ (.inl hown) _⟩ hb),rfl,hk7,⟨q,sm,bg,kv,arr,h1.below hb⟩⟩
 | false=>
  rw[ha] at hm c4;simp only[Bool.false_eq_true,if_false] at hm;have hb1:=aG (w.setCell ⟨L.bk k,4,none⟩ (.bool true)) (.cells #[.iface (TI k) (.pointer (some ⟨L.bk k,0,none⟩))] 94);have h1:=(hx.act hsl true).below hb1;have hN1:Next st (st.put k {m with act:=true}) L L w ((w.setCell ⟨L.bk k,4,none⟩ (.bool true)).alloc (.cells #[.iface (TI k) (.pointer (some ⟨L.bk k,0,none⟩))] 94)):=
   Next.below (Next.put ((FR.refl _ _).setCell _ (.inl hown) _)) hb1
  have hbox:((w.setCell ⟨L.bk k,4,none⟩ (.bool true)).alloc (.cells #[.iface (TI k) (.pointer (some ⟨L.bk k,0,none⟩))] 94)).heap[w.heap.size]? = some (.cells #[.iface (TI k) (.pointer (some ⟨L.bk k,0,none⟩))] 94):=by
   have:=aI (w.setCell ⟨L.bk k,4,none⟩ (.bool true)) (.cells #[.iface (TI k) (.pointer (some ⟨L.bk k,0,none⟩))] 94)
   rwa[show (w.setCell ⟨L.bk k,4,none⟩ (.bool true)).heap.size=w.heap.size by simp] at this
  have hk1:e9 (st.put k {m with act:=true}) k:=⟨{m with act:=true},by simp[St.put],rfl⟩
  have hs1:(st.put k {m with act:=true}).sl k≠none:=by simp[St.put]
  have hG1:bN (st.put k {m with act:=true}) L none bs fm _:=⟨q,sm,bg,kv,arr,h1⟩
  cases hi:inner wp E k (st.put k {m with act:=true}) with
  | none=>rw[hi] at hm;cases hm
  | some r=>
   obtain⟨out2,st2⟩:=r;rw[hi] at hm;have hact:=kY hE hi hk1;obtain⟨q1,q2,q3,q4⟩:=JC (wp:=wp) (E:=E) hk hN1 hk1 hbox hnb hact.1 hact.2 (out:=out) (st':=st') (fun a e=>by
    subst e;cases hm;exact⟨rfl,rfl⟩) (fun c e=>by
    subst e;simp only at hm;by_cases hck:c=k
    . rw[if_pos hck] at hm
      obtain⟨s,hs,e⟩:=Option.map_eq_some_iff.1 hm;cases e;exact .inl ⟨hck,s,hs,rfl,rfl⟩
    . rw[if_neg hck] at hm
      split at hm
      . cases hm
      . cases hm
        exact .inr ⟨hck,rfl,rfl⟩)
   have hsl1:(st.put k {m with act:=true}).sl k=some {m with act:=true}:=by simp[St.put]
   unfold inner at hi;rw[hsl1] at hi;simp only at hi;have hrev:(st.put k {m with act:=true}).rev=st.rev:=rfl;have hkept:(st.put k {m with act:=true}).kept=st.kept:=rfl;rw[hrev,hkept] at hi;by_cases hv:m.ver=some st.rev
   . rw[if_pos hv] at hi
     rw[hv] at c7;by_cases hkp:k∈st.kept
     . rw[if_pos hkp] at hi
       cases hi;have hu:=Gh hG1 (k:=k) hs1 fun e=>absurd hkp e;refine (JA (TI k) (Cu k.kind) (DM k) (L.bk k) bs st.rev pl (hpl2 hkp) w c0 c4 c7 g4 c10 hr hne hp hbs (fun w1=>dL (st.put k {m with act:=true}) L bs fm (.ok ()) ((st.put k {m with act:=true}).use k) _ (.returned (.tuple #[])) w1) (fun w1 hq=>?_) (hu.mono fun e w1 ⟨h1,L',h2,h3⟩=>⟨h1,L',h3,rfl,h2⟩)).mono ?_
       . rcases q1 _ _ hq with ⟨_,h⟩|⟨T',pv,h,_⟩
         . exact h
         . cases h
       . rintro e w'⟨rfl,w1,hq,rfl⟩
         exact q4 _ _ (.inl ⟨w1,hq,rfl,rfl⟩)
     . rw[if_neg hkp] at hi
       have hpl:=hpl1 hkp;exact (Jz (TI k) (Cu k.kind) (La k.kind) (DM k) (KM k) (L.bk k) bs st.rev pl (by rw[hpl];rfl) w c0 c4 c7 g4 c10 hr hne hp hbs _ _ q1 q2 q3 (hW _ _ _ _ _ _ hG1 (FM.next (F:=st.files) hFM hN1) hs1 hi)).mono q4
   . rw[if_neg hv] at hi
     split at hi
     . rename_i hvn
       have hvn:m.ver=none:=hvn;rw[hvn] at c7;exact (Jy (TI k) (Cu k.kind) (La k.kind) (DM k) (KM k) (L.bk k) bs st.rev (by omega) w c0 c4 c7 g4 hr hne hp hbs _ _ q1 q2 q3 (hW _ _ _ _ _ _ hG1 (FM.next (F:=st.files) hFM hN1) hs1 hi)).mono q4
     . cases hi
structure sB (st:St V) (L:aM) (bs lb B:Nat) (lk:List Lk) (w:World):Prop where
 blk:∃lv,w.heap[lb]? = some (.cells #[.pointer (some ⟨bs,1,none⟩),lv] 109)/\w.ownsRow B 169 1 lv lk.length (lk.map (lkV L))/\∀g,lv.ownBlock=some g->¬L.own g
 nb:¬L.own lb
 ge:B<=w.heap.size
 ex:∀l∈lk,match l with | .inl f=>st.src f≠none | .inr j=>st.sl j≠none
 len:lk.length<=cD
def WO(L:aM)(lb B:Nat)(w:World)(b:Nat):Prop:=L.own b\/b=lb\/(B<=b/\∃cs,w.heap[b]? = some (.cells cs 169))
structure cQ (lb B:Nat) (st st':St V) (L L':aM) (w w':World):Prop where
 bk:∀k,st.sl k≠none->st'.sl k≠none/\L'.bk k=L.bk k
 sb:∀f,st.src f≠none->st'.src f≠none/\L'.sb f=L.sb f
 own:∀b,L'.own b->L.own b\/w.heap.size<=b
 fr:FR (WO L lb B w) w w'
theorem cQ.refl(lb B:Nat)(st:St V)(L:aM)(w:World):cQ lb B st st L L w w:=⟨fun _ h=>⟨h,rfl⟩,fun _ h=>⟨h,rfl⟩,fun _ h=>.inl h,FR.refl _ _⟩
theorem cQ.trans{lb B:Nat}{st st1 st2:St V}{L L1 L2:aM}{w w1 w2:World}(h:cQ lb B st st1 L L1 w w1)(g:cQ lb B st1 st2 L1 L2 w1 w2):cQ lb B st st2 L L2 w w2:=
 ⟨fun k hk=>⟨(g.bk k (h.bk k hk).1).1,(g.bk k (h.bk k hk).1).2.trans (h.bk k hk).2⟩,fun f hf=>⟨(g.sb f (h.sb f hf).1).1,(g.sb f (h.sb f hf).1).2.trans (h.sb f hf).2⟩,fun b hb=>by
  rcases g.own b hb with h1|h1
  . exact h.own b h1
  . exact .inr (Nat.le_trans h.fr.size h1),h.fr.trans g.fr fun i hi=>by
  rcases hi with hi|hi|⟨hi,cs,hc⟩
  . rcases h.own i hi with h1|h1
    . exact .inl (.inl h1)
    . exact .inr h1
  . exact .inl (.inr (.inl hi))
  . by_cases hlt:i<w.heap.size
    . left
      by_cases ho:WO L lb B w i
      . exact ho
      . exact .inr (.inr ⟨hi,cs,by rw[<-h.fr.block i hlt ho];exact hc⟩)
    . exact .inr (by omega)⟩
theorem Next.toW{lb B:Nat}{st st':St V}{L L':aM}{w w':World}(h:Next st st' L L' w w'):cQ lb B st st' L L' w w':=⟨h.bk,h.sb,h.own,h.fr.mono fun i hi=>.inl (.inl hi)⟩
theorem cQ.below{lb B:Nat}{st st':St V}{L L':aM}{w w1 w2:World}(h:cQ lb B st st' L L' w w1)(hb:Below w1.heap.size w1 w2):cQ lb B st st' L L' w w2:=⟨h.bk,h.sb,h.own,h.fr.trans (O':=fun _=>False) (FR.of_below hb) fun _ x=>x.elim⟩
theorem cQ.next{lb B:Nat}{st st':St V}{L L':aM}{w w':World}(h:cQ lb B st st' L L' w w'){st0:St V}{L0:aM}{w0:World}(g:Next st0 st L0 L w0 w)(hB:w0.heap.size<=B)(hlb:w0.heap.size<=lb):Next st0 st' L0 L' w0 w':=
 ⟨fun k hk=>⟨(h.bk k (g.bk k hk).1).1,(h.bk k (g.bk k hk).1).2.trans (g.bk k hk).2⟩,fun f hf=>⟨(h.sb f (g.sb f hf).1).1,(h.sb f (g.sb f hf).1).2.trans (g.sb f hf).2⟩,fun b hb=>by
  rcases h.own b hb with h1|h1
  . exact g.own b h1
  . exact .inr (Nat.le_trans g.fr.size h1),g.fr.trans h.fr fun i hi=>by
  rcases hi with hi|hi|hi
  . exact g.own i hi
  . exact .inr (hi ▸ hlb)
  . exact .inr (Nat.le_trans hB hi.1)⟩
theorem cQ.blk{lb B:Nat}{st st':St V}{L L':aM}{w w':World}(h:cQ lb B st st' L L' w w'){b:Nat}{o:Obj}(hb:w.heap[b]? = some o)(h1:¬L.own b)(h2:b≠lb)(h3:∀cs,o ≠ .cells cs 169):w'.heap[b]? = some o/\¬L'.own b:=by
 have:=aB hb
 refine⟨h.fr.heap hb fun e=>?_,fun e=>(h.own b e).elim h1 fun x=>by omega⟩;rcases e with e|e|⟨_,cs,e⟩
 . exact h1 e
 . exact h2 e
 . rw[hb] at e;injection e with e;exact h3 cs e
theorem FM.wnext{W0:World}{F:ByteArray->Option ByteArray}{lb B:Nat}{st st':St V}{L L':aM}{fm:Value}{w w':World}(h:FM W0 F L fm w)(hN:cQ lb B st st' L L' w w'){cs:Array Value}{T:TypeId}(hlb:w.heap[lb]? = some (.cells cs T))(h1:W0.heap.size<=lb)(h2:W0.heap.size<=B):FM W0 F L' fm w':=by
 refine⟨h.sm,h.mp.imp id ?_,⟨hN.fr.os.trans h.low.os,hN.fr.tape.trans h.low.tape,hN.fr.output.trans h.low.output,Nat.le_trans h.low.size hN.fr.size,fun k hk=>?_⟩,fun b hb=>?_⟩
 . rintro⟨b,es,n,h1,h2,h3,h4⟩
   have:=hN.blk h3 h2 (fun e=>by rw[e,hlb] at h3;cases h3) (fun cs e=>by cases e)
   exact⟨b,es,n,h1,this.2,this.1,h4⟩
 . refine (hN.fr.block k (Nat.lt_of_lt_of_le hk h.low.size) fun e=>?_).trans (h.low.block k hk)
   rcases e with e|e|e
   . have:=h.ow k e;omega
   . omega
   . have:=e.1;omega
 . rcases hN.own b hb with h1|h1
   . exact h.ow b h1
   . exact Nat.le_trans h.low.size h1
def gU(kind:Nat)(vs:List Value):Value:=if kind=3 then .agg ⟨vs⟩ else vs.headD .nilIface
def bM(B:Nat)(st:St V)(L:aM)(bs lb:Nat)(fm:Value)(kind:Nat)(out:Out (V×List Lk))(st':St V)(w:World):Ending->World->Prop:=fun e w'=>
 ∃L',cQ lb B st st' L L' w w'/\match out with
  | .ok (v,lk)=>(∃vs,e = .returned (gU kind vs)/\bO L'.own w' kind (some v) vs)/\sB st' L' bs lb B lk w'/\bN st' L' none bs fm w'
  | .error c=>e = .panicked (oQ c)/\c.kind=7/\bN st' L' (some c) bs fm w'
def OV(W0:World)(wp:K->Prog V)(E:eF V)(bs:Nat)(fm:Value):Prop:=∀(B:Nat) (st:St V) (L:aM) (w:World) (k:K) (lb:Nat) (out:Out (V×List Lk)) (st':St V),bN st L none bs fm w->FM W0 st.files L fm w->sB st L bs lb B [] w->W0.heap.size<=lb->W0.heap.size<=B->st.sl k≠none->(∀b,L.own b->b<B)->run E (k.kind != 7) (wp k) [] st=some (out,st')->
 Calls Tryz.prog (cF k.kind) #[ptr bs,ptr lb,cM k] w (bM B st L bs lb fm k.kind out st' w)
theorem cV.began{st:St V}{L:aM}{lp:Option K}{bs:Nat}{fm q sm bg kv:Value}{arr:List K}{w w5:World}(h:cV st L lp bs fm q sm bg kv arr w)(k:K){bg':Value}
 (hown:w5.ownsRow 0 99 3 bg' (st.began.length+1) (st.began.flatMap gC++gC k)) (hloc:∀g,bg'.ownBlock=some g->bg.ownBlock=some g\/w.heap.size<=g)
 (hfar:∀b,b<w.heap.size->bg.ownBlock≠some b->w5.heap[b]? = w.heap[b]?) (hsz:w.heap.size<=w5.heap.size) (henv:w5.os=w.os/\w5.tape=w.tape/\w5.output=w.output) :
 cV {st with began:=st.began ++ [k]} (L.arr bg') lp bs fm q sm bg' kv arr (w5.setCell ⟨bs,4,none⟩ bg')/\Next st {st with began:=st.began ++ [k]} L (L.arr bg') w (w5.setCell ⟨bs,4,none⟩ bg'):=by
 obtain⟨how,hin⟩:=h.bg;have hbgT:∀b,bg.ownBlock=some b->∃cur,w.heap[b]? = some (.cells cur 99):=fun b hb=>by
  obtain⟨_,⟨e1,_⟩|⟨g,cap,cur,e1,_,e3,_⟩⟩:=how
  . rw[e1] at hb;simp[Value.ownBlock] at hb
  . rw[e1] at hb;simp[Value.ownBlock] at hb;subst hb;exact⟨cur,e3⟩
 have hbsne:bg.ownBlock≠some bs:=fun e=>by
  obtain⟨cur,hc⟩:=hbgT bs e;rw[h.s] at hc;injection hc with hc;injection hc with _ hc;exact absurd hc (by decide)
 have hS5:w5.heap[bs]? = some (.cells #[fm,.int .i64 st.rev,q,sm,bg,kv,.int .u64 st.uses] 66):=(hfar bs (aB h.s) hbsne).trans h.s;have hgne:∀g,bg'.ownBlock=some g->g≠bs:=fun g hg e=>by
  rcases hloc g hg with h1|h1
  . exact hbsne (e ▸ h1)
  . have:=aB h.s;omega
 have hext:∀b,(L.arr bg').own b->L.own b\/w.heap.size<=b:=fun b hb=>by
  rcases hb with hb|hb
  . exact .inl hb
  . rcases hloc b hb with h1|h1
    . exact .inl (hin b h1)
    . exact .inr h1
 have hfr:FR L.own w (w5.setCell ⟨bs,4,none⟩ bg'):=⟨henv.1,henv.2.1,henv.2.2,by simpa using hsz,fun b hb hn=>(aD (fun e=>hn (by rw[e];exact h.bo)) _).trans (hfar b hb fun e=>hn (hin b e))⟩
 have hcs:∀(b:Nat) (cs:Array Value) (T:TypeId),w.heap[b]? = some (.cells cs T)->T≠66->T≠99->(w5.setCell ⟨bs,4,none⟩ bg').heap[b]? = some (.cells cs T):=fun b cs T hb h1 h2=>by
  refine (aD (fun e=>?_) _).trans ((hfar b (aB hb) fun e=>?_).trans hb)
  . rw[e,h.s] at hb;injection hb with hb;injection hb with _ hb;exact h1 hb.symm
  . obtain⟨cur,hc⟩:=hbgT b e
    rw[hc] at hb;injection hb with hb;injection hb with _ hb;exact h2 hb.symm
 have hmp:∀(b:Nat) (es:Array MapEntry) (n:Nat),w.heap[b]? = some (.map es n)->(w5.setCell ⟨bs,4,none⟩ bg').heap[b]? = some (.map es n):=fun b es n hb=>by
  refine (aD (fun e=>?_) _).trans ((hfar b (aB hb) fun e=>?_).trans hb)
  . rw[e,h.s] at hb;injection hb with hb;cases hb
  . obtain⟨cur,hc⟩:=hbgT b e
    rw[hc] at hb;injection hb with hb;cases hb
 have hown6:(w5.setCell ⟨bs,4,none⟩ bg').ownsRow 0 99 3 bg' (st.began.length+1) (st.began.flatMap gC++gC k):=bJ hown fun g hg=>aD (hgne g hg) _;refine⟨⟨⟨aH (i:=4) hS5 _,.inl h.bo,fun b hb=>?_,?_,fun f c hf=>⟨.inl (h.srb f c hf).1,hcs _ _ _ (h.srb f c hf).2 (by decide) (by decide)⟩,h.sri,h.qm,?_,⟨?_,fun g hg=>.inr hg⟩,⟨(h.kv.keep fun b cs hb=>hcs b cs _ hb (by decide) (by decide)).1,fun g hg=>.inl (h.kv.2 g hg)⟩,h.perm,h.nd,h.kl,h.ex,fun j n hj=>?_⟩,h.heap⟩,⟨fun _ h=>⟨h,rfl⟩,fun _ h=>⟨h,rfl⟩,hext,hfr⟩⟩
 . rcases hb with hb|hb
   . exact Nat.lt_of_lt_of_le (h.olt b hb) (by simpa using hsz)
   . exact (hown6.lt b hb).2
 . rcases h.sr.keep hmp with h1|⟨b,es,n,h1,h2,h3,h4⟩
   . exact .inl h1
   . exact .inr ⟨b,es,n,h1,.inl h2,h3,h4⟩
 . rcases h.sm.keep hmp with h1|⟨b,es,n,h1,h2,h3,h4⟩
   . exact .inl h1
   . exact .inr ⟨b,es,n,h1,.inl h2,h3,h4⟩
 . simpa using hown6
 . have hc:=h.cell j n hj
   obtain⟨x,vs,a,d⟩:=hc.ex;exact⟨⟨x,vs,hcs _ _ _ a fU.1 fU.2.2.1,d.next hfr hext⟩,.inl hc.own⟩
theorem mX:(Tryz.prog.info? 99).map (fun i=>(i.zero,i.size,i.bytes))=some (some (.agg #[.int .i64 0,.string ⟨#[]⟩,.string ⟨#[]⟩]),3,40):=by kernel_rfl
theorem lT{α β γ:Type}{F:α->β->γ->Prop}(T:α->β->γ->Prop){G:Prop}(main:(∀a b c,F a b c->T a b c)->G)(key:∀a b c,F a b c->T a b c):G:=main key
theorem Cv{α β γ δ ε:Type}{F:α->β->γ->δ->ε->Prop}(T:α->β->γ->δ->ε->Prop){G:Prop}(main:(∀a b c d e,F a b c d e->T a b c d e)->G)(key:∀a b c d e,F a b c d e->T a b c d e):G:=main key
theorem Cw{α β γ δ ε ζ η:Type}{F:α->β->γ->δ->ε->ζ->η->Prop}(T:α->β->γ->δ->ε->ζ->η->Prop){G:Prop}(main:(∀a b c d e f g,F a b c d e f g->T a b c d e f g)->G)(key:∀a b c d e f g,F a b c d e f g->T a b c d e f g):G:=main key
theorem k9(bs:Nat)(w:World):Calls Tryz.prog 36 #[.pointer (some ⟨bs,1,none⟩)] w fun e w'=>e = .returned (.pointer (some ⟨w.heap.size,0,none⟩))/\w'=w.alloc (.cells #[.pointer (some ⟨bs,1,none⟩),.slice none 0 0] 109):=by
 go_enter Tryz.func36,Tryz.ntmps36;go_wp2;go_ret;exact⟨rfl,rfl⟩
structure BG (w w5:World) (v:Value) (n g' c':Nat) (xs:List Value):Prop where
 own:w5.ownsRow 0 99 3 (.slice (some ⟨g',0,none⟩) (n+1) c') (n+1) xs
 loc:v.ownBlock=some g'\/w.heap.size<=g'
 far:∀b,b<w.heap.size->v.ownBlock≠some b->w5.heap[b]? = w.heap[b]?
 size:w.heap.size<=w5.heap.size
 env:w5.os=w.os/\w5.tape=w.tape/\w5.output=w.output
theorem A9{w w5:World}{o:Obj}{v:Value}{n g' c':Nat}{xs:List Value}(hown:w5.ownsRow 0 99 3 (.slice (some ⟨g',0,none⟩) (n+1) c') (n+1) xs)(hg:(w.alloc o).drew.grownBy w5 v.ownBlock)(hat:v.ownBlock=some g'\/g'=w.heap.size+1):BG w w5 v n g' c' xs:=by
 have hz:=hg.size;simp at hz;refine⟨hown,?_,fun b hb hne=>?_,by omega,hg.os,hg.tape,hg.output⟩
 . rcases hat with h|h
   . exact .inl h
   . exact .inr (by omega)
 . exact (hg.block b (by simp;omega) (fun e=>hne e.symm)).trans (Below.heap_alloc _ _ _ hb)
theorem sW{st st':St V}{k:K}{v:V}(ha:answer st k v=some st'):∃m,st.sl k=some m/\st.kept.length<cD/\k∉st.kept:=by
 unfold answer at ha;split at ha
 . cases ha
 . split at ha
   . rename_i m hm hc
     exact⟨m,hm,hc.1,hc.2⟩
   . cases ha
theorem Cx{E:eF V}{st st':St V}{c:K}:∀(p:Prog V) (lk:List Lk) (st:St V),run E true p lk st≠some (.cyc c,st')
 | ⟨.inl v,_⟩,lk,st,h=>by simp[run] at h
 | ⟨.inr (.inl _),_⟩,lk,st,h=>by simp[run] at h
 | ⟨.inr (.inr (.inl f)),c⟩,lk,st,h=>by
  simp only[run] at h;split at h
  . exact Cx (st:=st) _ _ _ h
  . cases h
 | ⟨.inr (.inr (.inr j)),c⟩,lk,st,h=>by
  simp only[run] at h;split at h
  . exact Cx (st:=st) _ _ _ h
  . rename_i c' st2 he
    unfold cE at he;split at he
    . cases he
    split at he
    . obtain⟨_,_,e⟩:=Option.map_eq_some_iff.1 he
      cases e
    . split at he
      . split at he
        . obtain⟨_,_,e⟩:=Option.map_eq_some_iff.1 he
          cases e
        . cases he
      . simp at he
      . cases he
  . cases h
theorem Ba:(Tryz.prog.info? 169).map (fun i=>(i.zero,i.size,i.bytes))=some (some .nilIface,1,16):=by kernel_rfl
structure AD (w w':World) (lb B n:Nat) (tb v:Value) (xs:List Value):Prop where
 blk:∃v',w'.heap[lb]? = some (.cells #[tb,v'] 109)/\w'.ownsRow B 169 1 v' (n+1) xs/\∀g,v'.ownBlock=some g->v.ownBlock=some g\/w.heap.size<=g
 far:∀b,b<w.heap.size->b≠lb->v.ownBlock≠some b->w'.heap[b]? = w.heap[b]?
 size:w.heap.size<=w'.heap.size
 env:w'.os=w.os/\w'.tape=w.tape/\w'.output=w.output
theorem ML{w:World}{lb B n:Nat}{tb:Value}{ao:Option Addr}{cp:Nat}{xs:List Value}(T:TypeId)(p:Nat)(h:w.heap[lb]? = some (.cells #[tb,.slice ao n cp] 109))(hown:w.ownsRow B 169 1 (.slice ao n cp) n xs)(hn:n<1099511627776)(hB:B<=w.heap.size)(hlg:(Value.slice ao n cp).ownBlock≠some lb) :
 Calls Tryz.prog 88 #[.pointer (some ⟨lb,0,none⟩),.iface T (.pointer (some ⟨p,0,none⟩))] w fun e w'=>e = .returned (.tuple #[])/\AD w w' lb B n tb (.slice ao n cp) (xs ++ [.iface T (.pointer (some ⟨p,0,none⟩))]):=by
 have hlb:=aB h;have c1:w.cell? ⟨lb,1,none⟩=some (.slice ao n cp):=aA (i:=1) h;have f1:w.frozen? ⟨lb,1,none⟩=false:=aE h;obtain⟨i0,hi0,hz0,hz1,hz2⟩:=info_parts Ba;have HW:=hid (fun (o:Obj)=>bJ (w':=(w.alloc o).drew) hown fun g hg=>Below.heap_alloc _ _ _ (hown.lt g hg).2);have HS:=hid (fun (o:Obj)=>(show (w.alloc o).drew.heap[lb]? = _ from aC o h));have HG:=hid hlg;have HH:=hid h;have hsc:∀o,(w.alloc o).drew.cell? ⟨lb,1,none⟩=some (.slice ao n cp):=fun o=>aA (i:=1) (HS.out o);have hsf:∀o,(w.alloc o).drew.frozen? ⟨lb,1,none⟩=false:=fun o=>aE (HS.out o);clear h hown hlg;go_enter Tryz.func88,Tryz.ntmps88;go_wp2_with (at_builtin;refine wpList_append_own_at _ rfl _ _ 107 rfl B 169 i0 .nilIface 1 16 Tryz.underlying107 hi0 hz0 hz1 hz2 rfl (by decide) (.slice ao n cp) n xs (by rfl) (HW.out _) ⟨w.heap.size,0,none⟩ 1 1 [.iface T (.pointer (some ⟨p,0,none⟩))] rfl rfl ?c1 ?c2 ?c3 ?c4 ?c5 ?_)
 all_goals first
  | (intro j u hj
     match j,hj with
     | 0,hj=>simp at hj;subst hj;exact World.cell?_alloc_at _ _ _ _ (by simp)
     | (n+1),hj=>simp at hj)
  | (intro u hu;simp at hu;subst hu;rfl)
  | (unfold maxLen;omega)
  | omega
  | (simp;omega)
  | skip
 all_goals
  intro v' w5 hown' hgrow hnil hloc;have h5:=(hgrow.block lb (by simp;omega) (fun e=>HG.out e.symm)).trans (HS.out _);have g5:w5.cell? ⟨lb,1,none⟩=some (.slice ao n cp):=aA (i:=1) h5;have k5:w5.frozen? ⟨lb,1,none⟩=false:=aE h5;have hsh:∃a n c,v' = .slice a n c:=by
   obtain⟨_,⟨h,_⟩|⟨g,c,_,h,_⟩⟩:=hown'
   . exact⟨none,0,0,h⟩
   . exact⟨_,_,_,h⟩
  obtain⟨a',n',c',rfl⟩:=hsh;have hvb:∀q,(Value.slice a' n' c').ownBlock=some q->(Value.slice ao n cp).ownBlock=some q\/w.heap.size<=q:=fun q hq=>by
   rcases hloc with h1|h1
   . exact .inl (h1.symm.trans hq)
   . refine .inr ?_
     have h3:=Option.some.inj (h1.symm.trans hq);rw[<-h3];omega
  have HR:Hid (AD w (w5.setCell ⟨lb,1,none⟩ (.slice a' n' c')) lb B n tb (.slice ao n cp) (xs ++ [.iface T (.pointer (some ⟨p,0,none⟩))])):=by
   have hz:=hgrow.size;simp at hz;refine⟨⟨_,aH h5 _,bJ hown' (fun g hg=>aD (fun e=>?_) _),hvb⟩,fun q hq q1 q3=>?_,by simp;omega,?_⟩
   . rcases hvb g hg with h1|h1
     . exact HG.out (by rw[<-e];exact h1)
     . omega
   . refine (aD q1 _).trans ((hgrow.block q (by simp;omega) (fun e=>q3 e.symm)).trans ?_)
     exact Below.heap_alloc _ _ _ hq
   . exact⟨hgrow.os,hgrow.tape,hgrow.output⟩
  clear h5 hown' hgrow hnil hloc hvb;go_wp2;go_end0
  exact⟨rfl,HR.out⟩
theorem Row.keepT{O:Nat->Prop}{w w':World}{T:TypeId}{v:Value}{n:Nat}{xs:List Value}(h:Row O w T v n xs)(hk:∀(b:Nat) (cs:Array Value),w.heap[b]? = some (.cells cs T)->w'.heap[b]? = some (.cells cs T)):Row O w' T v n xs:=by
 obtain⟨ao,c,hv,hc,hg⟩:=h;refine⟨ao,c,hv,hc,fun hn=>?_⟩;obtain⟨g,cur,h1,h2,h3,h4⟩:=hg hn;exact⟨g,cur,h1,h2,hk g _ h3,h4⟩
theorem bO.keepT{O:Nat->Prop}{w w':World}{kind:Nat}{x:Option V}{vs:List Value}(h:bO O w kind x vs)(hk:∀(b:Nat) (cs:Array Value) (T:TypeId),T≠109->T≠169->w.heap[b]? = some (.cells cs T)->w'.heap[b]? = some (.cells cs T)):bO O w' kind x vs:=by
 match x,h with
 | some (.inl l),⟨a,v,b,c⟩=>exact⟨a,v,b,c.keepT fun b cs=>hk b cs _ (by decide) (by decide)⟩
 | some (.inr (.inl (its,f))),⟨a,v,b,c⟩=>exact⟨a,v,b,c.keepT fun b cs=>hk b cs _ (by decide) (by decide)⟩
 | some (.inr (.inr (.inl l))),⟨a,v,b,c⟩=>exact⟨a,v,b,c.keepT fun b cs=>hk b cs _ (by decide) (by decide)⟩
 | some (.inr (.inr (.inr b))),h=>exact h
 | none,h=>exact h
theorem Gy{k:K}:TB k≠109/\TB k≠169:=by
 unfold TB;repeat' split
 all_goals decide
theorem cV.far{st:St V}{L:aM}{lp:Option K}{bs:Nat}{fm q sm bg kv:Value}{arr:List K}{w w':World}(h:cV st L lp bs fm q sm bg kv arr w)(hs:w.heap.size<=w'.heap.size)
 (hk:∀(b:Nat) (cs:Array Value) (T:TypeId),T≠109->T≠169->w.heap[b]? = some (.cells cs T)->w'.heap[b]? = some (.cells cs T)) (hmp:∀(b:Nat) (es:Array MapEntry) (n:Nat),w.heap[b]? = some (.map es n)->w'.heap[b]? = some (.map es n)):cV st L lp bs fm q sm bg kv arr w':=by
 refine⟨⟨hk _ _ _ (by decide) (by decide) h.s,h.bo,fun b hb=>Nat.lt_of_lt_of_le (h.olt b hb) hs,h.sr.keep hmp,fun f c hf=>⟨(h.srb f c hf).1,hk _ _ _ (by decide) (by decide) (h.srb f c hf).2⟩,h.sri,h.qm,h.sm.keep hmp,h.bg.keep fun b cs=>hk b cs _ (by decide) (by decide),h.kv.keep fun b cs=>hk b cs _ (by decide) (by decide),h.perm,h.nd,h.kl,h.ex,fun j n hj=>?_⟩,h.heap⟩;have hc:=h.cell j n hj;obtain⟨x,vs,a,b⟩:=hc.ex;exact⟨⟨x,vs,hk _ _ _ Gy.1 Gy.2 a,b.keepT hk⟩,hc.own⟩
theorem MM{w w':World}{lb B n:Nat}{tb v:Value}{xs ys:List Value}(ha:AD w w' lb B n tb v xs)(h:w.heap[lb]? = some (.cells #[tb,v] 109)){m:Nat}(hown:w.ownsRow B 169 1 v m ys) :
 (∀(b:Nat) (cs:Array Value) (T:TypeId),T≠109->T≠169->w.heap[b]? = some (.cells cs T)->w'.heap[b]? = some (.cells cs T))/\(∀(b:Nat) (es:Array MapEntry) (n:Nat),w.heap[b]? = some (.map es n)->w'.heap[b]? = some (.map es n)):=by
 have hT:∀b,v.ownBlock=some b->∃cur,w.heap[b]? = some (.cells cur 169):=fun b hb=>by
  obtain⟨_,⟨e1,_⟩|⟨g,cap,cur,e1,_,e3,_⟩⟩:=hown
  . rw[e1] at hb;simp[Value.ownBlock] at hb
  . rw[e1] at hb;simp[Value.ownBlock] at hb;subst hb;exact⟨cur,e3⟩
 refine⟨fun b cs T h1 h2 hb=>(ha.far b (aB hb) (fun e=>?_) fun e=>?_).trans hb,fun b es n hb=>(ha.far b (aB hb) (fun e=>?_) fun e=>?_).trans hb⟩
 . rw[e,h] at hb;injection hb with hb;injection hb with _ hb;exact h1 hb.symm
 . obtain⟨cur,hc⟩:=hT b e
   rw[hc] at hb;injection hb with hb;injection hb with _ hb;exact h2 hb.symm
 . rw[e,h] at hb;injection hb with hb;cases hb
 . obtain⟨cur,hc⟩:=hT b e
   rw[hc] at hb;injection hb with hb;cases hb
theorem jG{w:World}{B z n:Nat}{T:TypeId}{v:Value}{xs:List Value}(h:w.ownsRow B T z v n xs){b:Nat}(hb:v.ownBlock=some b):∃cur,w.heap[b]? = some (.cells cur T):=by
 obtain⟨_,⟨e1,_⟩|⟨g,cap,cur,e1,_,e3,_⟩⟩:=h
 . rw[e1] at hb;simp[Value.ownBlock] at hb
 . rw[e1] at hb;simp[Value.ownBlock] at hb;subst hb;exact⟨cur,e3⟩
theorem sB.add{st:St V}{L:aM}{bs lb B:Nat}{fm:Value}{lk:List Lk}{w w':World}(h:sB st L bs lb B lk w)(hE:bN st L none bs fm w)(hn:lk.length<cD){v:Value}(hb:w.heap[lb]? = some (.cells #[.pointer (some ⟨bs,1,none⟩),v] 109)){l:Lk}(hl:match l with | .inl f=>st.src f≠none | .inr j=>st.sl j≠none)
 (ha:AD w w' lb B lk.length (.pointer (some ⟨bs,1,none⟩)) v (lk.map (lkV L) ++ [lkV L l])):sB st L bs lb B (lk ++ [l]) w'/\bN st L none bs fm w'/\cQ lb B st st L L w w'/\(∀{kind:Nat} {x:Option V} {vs:List Value},bO L.own w kind x vs->bO L.own w' kind x vs):=by
 obtain⟨v0,hb0,hown,hno⟩:=h.blk;have hv:v=v0:=by
  rw[hb] at hb0;injection hb0 with hb0;injection hb0 with hb0 _;simpa using hb0
 subst hv;obtain⟨hk,hmp⟩:=MM ha hb hown;obtain⟨v',h1,h2,h3⟩:=ha.blk;obtain⟨q,sm,bg,kv,arr,hx⟩:=hE;refine⟨⟨⟨v',h1,by simpa using h2,fun g hg ho=>?_⟩,h.nb,Nat.le_trans h.ge ha.size,fun x hx=>?_,by simp;omega⟩,⟨q,sm,bg,kv,arr,hx.far ha.size hk hmp⟩,⟨fun _ h=>⟨h,rfl⟩,fun _ h=>⟨h,rfl⟩,fun _ h=>.inl h,⟨ha.env.1,ha.env.2.1,ha.env.2.2,ha.size,fun b hb hn=>ha.far b hb (fun e=>hn (.inr (.inl e))) fun e=>hn (.inr (.inr ⟨(hown.lt b e).1,jG hown e⟩))⟩⟩,fun hv=>hv.keepT hk⟩
 . rcases h3 g hg with h4|h4
   . exact hno g h4 ho
   . have:=hx.olt g ho;omega
 . rcases List.mem_append.1 hx with h4|h4
   . exact h.ex x h4
   . simp at h4;subst h4;exact hl

structure Cy (T:TypeId):Prop where
 e:∃te i j,Tryz.prog.underlying T=some (.pointer te)/\Tryz.prog.info? T=some i/\i.comparable=true/\Tryz.prog.info? te=some j/\j.size≠0
theorem sX{T te:TypeId}{n:Nat}(h:Tryz.prog.underlying T=some (.pointer te))(h1:(Tryz.prog.info? T).map (·.comparable)=some true)(h2:(Tryz.prog.info? te).map (·.size)=some n)(hn:n≠0):Cy T:=by
 obtain⟨i,e1,e2⟩:=Option.map_eq_some_iff.1 h1;obtain⟨j,e3,e4⟩:=Option.map_eq_some_iff.1 h2;exact⟨te,i,j,h,e1,e2,e3,by omega⟩
theorem Lb:Cy 165:=sX (te:=175) (by kernel_rfl) (by kernel_rfl) (n:=16) (by kernel_rfl) (by decide)
theorem Lc:Cy 178:=sX (te:=181) (by kernel_rfl) (by kernel_rfl) (n:=16) (by kernel_rfl) (by decide)
theorem Ld:Cy 189:=sX (te:=192) (by kernel_rfl) (by kernel_rfl) (n:=16) (by kernel_rfl) (by decide)
theorem Le:Cy 184:=sX (te:=187) (by kernel_rfl) (by kernel_rfl) (n:=18) (by kernel_rfl) (by decide)
theorem DO(k:K):Cy (TI k):=by
 unfold TI;repeat' split
 . exact Lc
 . exact Le
 . exact Ld
 . exact Lb
theorem Gz:∃ms,Tryz.prog.underlying 169=some (.interface ms):=⟨_,Tryz.underlying169⟩
theorem DP{w:World}{T1 T2:TypeId}(h1:Cy T1){b1 b2:Nat}{c1 c2:Array Value}{t1 t2:TypeId}(hb1:w.heap[b1]? = some (.cells c1 t1))(hb2:w.heap[b2]? = some (.cells c2 t2)) :
 (binOp .eql 169 (.iface T1 (ptr b1)) (.iface T2 (ptr b2))).run Tryz.prog w = .ok (.bool (decide (T1=T2/\b1=b2))) w:=by
 obtain⟨ms,hi⟩:=Gz;obtain⟨te,i,j,a1,a2,a3,a4,a5⟩:=h1;by_cases hT:T1=T2
 . subst hT
   by_cases hb:b1=b2
   . subst hb
     simp only[and_self,decide_true];exact run_eql_iface_ptr_same w _ hi a1 a2 a3 a4
   . simp only[hb,and_false,decide_false]
     exact run_eql_iface_ptr_other w hi a1 a2 a3 a4 a5 (by simp[hb]) hb1 hb2
 . simp only[hT,false_and,decide_false]
   simp only[binOp];have hd:∀d:Nat,(Op.equalIn (d+1) 169 (.iface T1 (ptr b1)) (.iface T2 (ptr b2))).run Tryz.prog w = .ok false w:=fun d=>by simp[Op.equalIn,run_underlying hi,hT]
   simp[Op.equal,Op.maxDepth,hd 9999]
theorem Oc{st:St V}{L:aM}{lp:Option K}{bs:Nat}{fm:Value}{w:World}(h:bN st L lp bs fm w){k:K}(hk:st.sl k≠none){l:Lk}(hl:match l with | .inl f=>st.src f≠none | .inr j=>st.sl j≠none) :
 (binOp .eql 169 (aY L k) (lkV L l)).run Tryz.prog w = .ok (.bool (decide (l = .slot k))) w:=by
 obtain⟨m,hm⟩:=Option.ne_none_iff_exists'.1 hk;obtain⟨x,pl,vs,sb,_⟩:=h.sl hm;obtain⟨q,sm,bg,kv,arr,hx⟩:=h;cases l with
 | inl f=>
  obtain⟨c,hc⟩:=Option.ne_none_iff_exists'.1 hl;have:=DP (T2:=163) (DO k) sb (hx.srb f c hc).2
  simp only[lkV,aY];rw[this];have hT:TI k≠163:=by
   unfold TI;repeat' split
   all_goals decide
  simp[hT]
 | inr j=>
  obtain⟨mj,hmj⟩:=Option.ne_none_iff_exists'.1 hl;obtain⟨xj,vsj,sbj,_⟩:=(hx.cell j mj hmj).ex;have:=DP (T2:=TI j) (DO k) sb sbj
  simp only[lkV,aY];rw[this];have hd:decide (TI k=TI j/\L.bk k=L.bk j)=decide (Lk.slot j=Lk.slot k):=by
   by_cases hjk:j=k
   . subst hjk;simp
   . have:¬(L.bk k=L.bk j):=fun e=>hjk (hx.bk_inj hl hk e.symm)
     simp[this,hjk]
  rw[hd]
theorem Lf{w:World}{B n:Nat}{v:Value}{xs:List Value}{T:TypeId}{p:Nat}(hn2:n<=1099511627776)(hown:w.ownsRow B 169 1 v n xs)(k:Nat)(hk:k<=n)
 (heq:∀(i:Nat),i<n->i<=k->∃x,xs[i]? = some x/\∀m,(binOp .eql 169 (.iface T (.pointer (some ⟨p,0,none⟩))) x).run Tryz.prog (w.drewN m) = .ok (.bool (decide (i=k))) (w.drewN m)) :
 Calls Tryz.prog 116 #[v,.iface T (.pointer (some ⟨p,0,none⟩))] w fun e w'=>e = .returned (.int .i64 (if k<n then (k:Int) else -1))/\∃m,w'=w.drewN m:=by
 obtain⟨la,lc,rfl⟩:∃a c,v = .slice a n c:=by
  obtain⟨_,⟨h1,h0⟩|⟨g,c,_,h1,_⟩⟩:=hown
  . exact⟨none,0,by rw[h1,h0]⟩
  . exact⟨_,_,h1⟩
 have hcell:∀i,i<n->i<=k->∃g x,la=some ⟨g,0,none⟩/\xs[i]? = some x/\w.cell? ⟨g,i,none⟩=some x:=fun i hi hik=>by
  obtain⟨x,hx,_⟩:=heq i hi hik;obtain⟨_,⟨h1,h0⟩|⟨g,c,cur,h1,h2,h3⟩⟩:=id hown
  . omega
  . simp only[Value.slice.injEq] at h1
    obtain⟨rfl,_,rfl⟩:=h1;refine⟨g,x,rfl,hx,?_⟩;rw[hown.cellAt i (by omega),hx]
 have HC:=hid hcell;have HEQ:=hid heq;clear hown heq hcell;obtain⟨r,hr⟩:∃r:Int,r=if k<n then (k:Int) else -1:=⟨_,rfl⟩
 rw[<-hr];have HR:=hid hr;clear hr;go_enter Tryz.func116,Tryz.ntmps116;go_wp2;go_loopg [8] n (fun g vi wr=>∃(i m:Nat),g+i=n/\vi = .int .i64 (i:Nat)/\wr=w.drewN m/\i<=k)
 case atStart=>exact⟨0,0,by omega,rfl,rfl,Nat.zero_le _⟩
 case round=>
  obtain⟨i,m,hg,rfl,hwr,hik⟩:=hrel;have hi0:(0:Int)<=(i:Int):=by omega
  by_cases hi:i<n
  . have hil:(i:Int)<(n:Int):=by omega
    obtain⟨ga,x,rfl,hx,hc⟩:=HC.out i hi hik;obtain⟨x2,hx2,hq⟩:=HEQ.out i hi hik;rw[hx] at hx2;cases hx2;have hc2:wr.cell? ⟨ga,i,none⟩=some x:=by rw[hwr];exact hc
    have hq2:=hq m;rw[<-hwr] at hq2;have hq3:(binOp .eql 169 (.iface T (.pointer (some ⟨p,0,none⟩))) x).run Tryz.prog wr.drew = .ok (.bool (decide (i=k))) wr.drew:=by rw[hwr];exact hq (m+1)
    have HWR:=hid hwr;clear hwr hq hc;by_cases hkk:i=k
    . have hd:decide (i=k)=true:=by simp[hkk]
      rw[hd] at hq2 hq3;have HKK:=hid hkk;clear hd hkk;go_wp2;go_ret;refine⟨?_,m,HWR.out⟩;have h1:=HR.out;have h2:=HKK.out;rw[if_pos (by omega)] at h1;rw[h1,h2];rfl
    . have hd:decide (i=k)=false:=by simp[hkk]
      rw[hd] at hq2 hq3;have HKK:=hid hkk;clear hd hkk;go_wp2;have HG:=hid hg;go_roundg (n-(i+1))
      all_goals first
       | (have:=HG.out;omega)
       | exact⟨i+1,m,by omega,by go_num,HWR.out,by have:=HKK.out;omega⟩
  . have hil:¬((i:Int)<(n:Int)):=by omega
    have HWR:=hid hwr;clear hwr;go_wp2;go_ret;refine⟨?_,m,HWR.out⟩;have h1:=HR.out;rw[if_neg (by omega)] at h1;rw[h1];rfl
theorem Eo{w:World}{B n:Nat}{v:Value}{xs:List Value}{T:TypeId}{p:Nat}(hn2:n<=1099511627776)(hown:w.ownsRow B 169 1 v n xs)(k:Nat)(hk:k<=n)
 (heq:∀(i:Nat),i<n->i<=k->∃x,xs[i]? = some x/\∀m,(binOp .eql 169 (.iface T (.pointer (some ⟨p,0,none⟩))) x).run Tryz.prog (w.drewN m) = .ok (.bool (decide (i=k))) (w.drewN m)) :
 Calls Tryz.prog 86 #[v,.iface T (.pointer (some ⟨p,0,none⟩))] w fun e w'=>e = .returned (.bool (decide (k<n)))/\∃m,w'=w.drewN m:=by
 have HX:=hid (Lf hn2 hown k hk heq);clear hown heq;by_cases hkn:k<n
 . have hd:decide (k<n)=true:=by simp[hkn]
   rw[hd];rw[if_pos hkn] at HX;have hk0:(0:Int)<=(k:Int):=by omega
   clear hd hkn;go_enter Tryz.func86,Tryz.ntmps86;go_wp2_with fail
   refine HX.out.mono ?_;rintro e w1⟨rfl,m,hm⟩;have HM:=hid hm;clear hm;go_wp2;go_ret;exact⟨rfl,m,HM.out⟩
 . have hd:decide (k<n)=false:=by simp[hkn]
   rw[hd];rw[if_neg hkn] at HX;clear hd hkn;go_enter Tryz.func86,Tryz.ntmps86;go_wp2_with fail
   refine HX.out.mono ?_;rintro e w1⟨rfl,m,hm⟩;have HM:=hid hm;clear hm;go_wp2;go_ret;exact⟨rfl,m,HM.out⟩
theorem sB.next{st st1:St V}{L L1:aM}{bs lb B:Nat}{lk:List Lk}{w w1:World}(h:sB st L bs lb B lk w)(hN:Next st st1 L L1 w w1):sB st1 L1 bs lb B lk w1:=by
 obtain⟨lv,hb,ho,hn⟩:=h.blk;have hm:lk.map (lkV L1)=lk.map (lkV L):=List.map_congr_left fun l hl=>hN.lkV (h.ex l hl);refine⟨⟨lv,(hN.blk hb h.nb).1,by rw[hm];exact bJ ho fun g hg=>hN.fr.block g (ho.lt g hg).2 (hn g hg),fun g hg e=>?_⟩,(hN.blk hb h.nb).2,Nat.le_trans h.ge hN.fr.size,fun l hl=>?_,h.len⟩
 . rcases hN.own g e with h1|h1
   . exact hn g hg h1
   . have:=(ho.lt g hg).2;omega
 . have:=h.ex l hl
   cases l with
   | inl f=>exact (hN.sb f this).1
   | inr j=>exact (hN.bk j this).1
theorem Cz{st:St V}{L:aM}{lp:Option K}{bs lb B:Nat}{fm:Value}{lk:List Lk}{w:World}(hE:bN st L lp bs fm w)(hK:sB st L bs lb B lk w){k:K}(hk:st.sl k≠none){lv:Value}(hb:w.heap[lb]? = some (.cells #[.pointer (some ⟨bs,1,none⟩),lv] 109)) :
 Calls Tryz.prog 86 #[lv,aY L k] w fun e w'=>e = .returned (.bool (decide (Lk.slot k∈lk)))/\∃m,w'=w.drewN m:=by
 obtain⟨lv0,hb0,ho,hn⟩:=hK.blk;have hv:lv=lv0:=by
  rw[hb] at hb0;injection hb0 with hb0;injection hb0 with hb0 _;simpa using hb0
 subst hv;have hlen:=hK.len;unfold cD at hlen;have hle:lk.idxOf (Lk.slot k)<=lk.length:=List.idxOf_le_length;have hd:decide (Lk.slot k∈lk)=decide (lk.idxOf (Lk.slot k)<lk.length):=by
  by_cases h:Lk.slot k∈lk
  . have:=List.idxOf_lt_length_iff.2 h
    simp[h,this]
  . have:¬lk.idxOf (Lk.slot k)<lk.length:=fun e=>h (List.idxOf_lt_length_iff.1 e)
    simp[h,this]
 rw[hd];refine Eo (T:=TI k) (p:=L.bk k) hlen ho _ hle fun i hi hik=>?_;have hget:lk[i]? = some lk[i]:=List.getElem?_eq_getElem hi;refine⟨lkV L lk[i],by rw[List.getElem?_map,hget];rfl,fun m=>?_⟩;have hex:=hK.ex lk[i] (List.getElem_mem hi);have:=Oc (hE.below (below_drewN w m)) hk hex
 rw[show (Value.iface (TI k) (.pointer (some ⟨L.bk k,0,none⟩)))=aY L k from rfl,this];have hd2:decide (lk[i]=Lk.slot k)=decide (i=lk.idxOf (Lk.slot k)):=by
  by_cases hx:lk[i]=Lk.slot k
  . have h1:lk.idxOf (Lk.slot k)<=i:=by
     rcases Nat.lt_or_ge i (lk.idxOf (Lk.slot k)) with h2|h2
     . have h3:=List.not_of_lt_findIdx h2
       rw[hx] at h3;simp at h3
     . exact h2
    have:i=lk.idxOf (Lk.slot k):=by omega
    simp[hx,<-this]
  . have:i≠lk.idxOf (Lk.slot k):=fun e=>hx (by
     have h2:lk.idxOf (Lk.slot k)<lk.length:=by omega
     have h3:=List.getElem_idxOf h2;simp only[<-e] at h3;exact h3)
    simp[hx,this]
 rw[hd2]
structure FE (B:Nat) (st st1:St V) (L L1:aM) (bs lb:Nat) (fm:Value) (lk:List Lk) (w w1:World):Prop where
 e:bN st1 L1 none bs fm w1
 k:sB st1 L1 bs lb B lk w1
 n:cQ lb B st st1 L L1 w w1
 g:B<=w.heap.size
 f:∀(b:Nat) (cs:Array Value) (T:TypeId),T≠169->b≠lb->¬L.own b->w.heap[b]? = some (.cells cs T)->w1.heap[b]? = some (.cells cs T)/\¬L1.own b
theorem FE.val{B:Nat}{st st1:St V}{L L1:aM}{bs lb:Nat}{fm:Value}{lk:List Lk}{w w1:World}(h:FE B st st1 L L1 bs lb fm lk w w1){k:K}{v:V}(hv:st1.val k=some v):∃m x pl vs,m.val=some v/\SB w1 (L1.bk k) (TB k) (aX bs k m false x pl vs)/\bO L1.own w1 k.kind (some v) vs:=by
 cases hs:st1.sl k with
 | none=>simp[St.val,hs] at hv
 | some m=>
  have hm:m.val=some v:=by simpa[St.val,hs] using hv
  obtain⟨x,pl,vs,sb,hc,_⟩:=h.e.sl hs;exact⟨m,x,pl,vs,hm,by simpa using sb,by rw[hm] at hc;exact hc⟩
def Way(E:eF V)(nc:Bool)(k:K)(lk:List Lk)(st:St V)(out:Out (V×List Lk))(st':St V):Prop:=
 (∃v:V,Lk.slot k∈lk/\(st.find k).val k=some v/\.ok (v,lk)=out/\st.find k=st')\/
 (∃(v:V) (a:Unit) (st2:St V),Lk.slot k∉lk/\E k (st.find k)=some (.ok a,st2)/\lk.length<cD/\st2.val k=some v/\.ok (v,lk ++ [.slot k])=out/\st2=st')\/
 ∃(c:K) (st2:St V),Lk.slot k∉lk/\E k (st.find k)=some (.error c,st2)/\k.kind=7/\.error c=out/\st2=st'
theorem zN{E:eF V}{nc:Bool}{k:K}{lk:List Lk}{st st':St V}{out:Out (V×List Lk)}(h:cE E nc k lk st=some (out,st')):Way E nc k lk st out st':=by
 unfold cE at h;split at h
 . cases h
 split at h
 . rename_i hm
   obtain⟨v,hv,e⟩:=Option.map_eq_some_iff.1 h;cases e;exact .inl ⟨v,hm,hv,rfl,rfl⟩
 . rename_i hm
   split at h
   . rename_i a st2 he
     split at h
     . rename_i hl
       obtain⟨v,hv,e⟩:=Option.map_eq_some_iff.1 h;cases e;exact .inr (.inl ⟨v,a,_,hm,he,hl,hv,rfl,rfl⟩)
     . cases h
   . rename_i c st2 he
     split at h
     . cases h
     . rename_i h7
       cases h;exact .inr (.inr ⟨c,_,hm,he,by cases nc <;> simp_all,rfl,rfl⟩)
   . cases h
theorem lU(st:St V)(k:K):(st.find k).sl k≠none:=by
 by_cases h:st.sl k=none
 . rw[A2 h];simp[St.put]
 . rw[uE h];exact h
def Lg(p:Nat)(k:K)(bs lb:Nat)(O:Nat->Prop)(w0:World)(P:Ending->World->Prop)(w:World):Prop:=∃m x pl vs,SB w p (TB k) (aX bs k m false x pl vs)/\bO (fun _=>False) w k.kind none vs/\P (.returned (gU k.kind vs)) w/\∀(b:Nat) (cs:Array Value) (T:TypeId),T≠169->b≠lb->¬O b->w0.heap[b]? = some (.cells cs T)->w.heap[b]? = some (.cells cs T)
theorem GA{O O':Nat->Prop}{w w':World}{kind:Nat}{vs:List Value}(h:bO O w kind none vs):bO O' w' kind none vs:=h
theorem FE.fin{B:Nat}{st st1:St V}{L L1:aM}{bs lb:Nat}{fm:Value}{lk:List Lk}{w w1:World}(h:FE B st st1 L L1 bs lb fm lk w w1){k:K}{v:V}(hv:st1.val k=some v):Lg (L1.bk k) k bs lb L.own w (bM B st L bs lb fm k.kind (.ok (v,lk)) st1 w) w1:=by
 obtain⟨m,x,pl,vs,_,sb,hc⟩:=h.val hv;exact⟨m,x,pl,vs,sb,GA (dN hc),⟨L1,h.n,⟨vs,rfl,hc⟩,h.k,h.e⟩,fun b cs T a1 a2 a3 a4=>(h.f b cs T a1 a2 a3 a4).1⟩
theorem sB.below{st:St V}{L:aM}{bs lb B:Nat}{lk:List Lk}{w w1:World}(h:sB st L bs lb B lk w)(hb:Below w.heap.size w w1):sB st L bs lb B lk w1:=h.next ((Next.refl st L w).below hb)
theorem FE.below{B:Nat}{st st1:St V}{L L1:aM}{bs lb:Nat}{fm:Value}{lk:List Lk}{w w1 w2:World}(h:FE B st st1 L L1 bs lb fm lk w w1)(hb:Below w1.heap.size w1 w2):FE B st st1 L L1 bs lb fm lk w w2:=⟨h.e.below hb,h.k.below hb,h.n.below hb,h.g,fun b cs T a1 a2 a3 a4=>let ⟨x,y⟩:=h.f b cs T a1 a2 a3 a4;⟨below_heap hb (aB x) x,y⟩⟩
def FX(W0:World)(B:Nat)(st st1:St V)(L:aM)(bs lb:Nat)(fm:Value)(lk:List Lk)(k:K)(p:Nat)(lv:Value)(w w1:World):Prop:=∃L1,FE B st st1 L L1 bs lb fm lk w w1/\FM W0 st.files L1 fm w1/\L1.bk k=p/\w1.heap[lb]? = some (.cells #[.pointer (some ⟨bs,1,none⟩),lv] 109)
theorem zO{W0:World}{B:Nat}{st:St V}{L:aM}{bs lb p:Nat}{fm lv:Value}{lk:List Lk}{k:K}{w w1:World}{v:V}(h:FX W0 B st (st.find k) L bs lb fm lk k p lv w w1)(hin:Lk.slot k∈lk)(hv:(st.find k).val k=some v) :
 Calls Tryz.prog 86 #[lv,.iface (TI k) (.pointer (some ⟨p,0,none⟩))] w1 fun e w2=>e = .returned (.bool true)/\Lg p k bs lb L.own w (bM B st L bs lb fm k.kind (.ok (v,lk)) (st.find k) w) w2:=by
 obtain⟨L1,hF,hFM,rfl,hb⟩:=h;refine (Cz hF.e hF.k (lU st k) hb).mono ?_;rintro e w2⟨rfl,m,rfl⟩;exact⟨by simp[hin],(hF.below (below_drewN w1 m)).fin hv⟩
theorem zP{W0:World}{E:eF V}{B:Nat}{st st2:St V}{L:aM}{bs lb p:Nat}{fm lv:Value}{lk:List Lk}{k:K}{w w1:World}{v:V}{a:Unit}(hS:sA W0 E bs fm)(h:FX W0 B st (st.find k) L bs lb fm lk k p lv w w1)(hin:Lk.slot k∉lk)(he:E k (st.find k)=some (.ok a,st2))(hl:lk.length<cD)(hv:st2.val k=some v) :
 Calls Tryz.prog 86 #[lv,.iface (TI k) (.pointer (some ⟨p,0,none⟩))] w1 fun e w2=>e = .returned (.bool false)/\
  Hid (Calls Tryz.prog 87 #[.iface (TI k) (.pointer (some ⟨p,0,none⟩)),.bool true] w2 fun e w3=>e = .returned (.tuple #[])/\
   Hid (Calls Tryz.prog 88 #[.pointer (some ⟨lb,0,none⟩),.iface (TI k) (.pointer (some ⟨p,0,none⟩))] w3 fun e w4=>e = .returned (.tuple #[])/\
    Lg p k bs lb L.own w (bM B st L bs lb fm k.kind (.ok (v,lk ++ [.slot k])) st2 w) w4)):=by
 obtain⟨L1,hF,hFM,rfl,hb⟩:=h;refine (Cz hF.e hF.k (lU st k) hb).mono ?_;rintro e w2⟨rfl,m,rfl⟩;refine⟨by simp[hin],hid ?_⟩;have hF2:=hF.below (below_drewN w1 m);refine (hS _ _ _ _ _ _ hF2.e (by rw[mW];exact hFM.below (below_drewN w1 m)) (lU st k) he).mono ?_;rintro e w3⟨L3,hN3,rfl,hE3⟩;refine⟨rfl,hid ?_⟩;have hK3:=hF2.k.next hN3;have hb3:L3.bk k=L1.bk k:=(hN3.bk k (lU st k)).2;have hk3:st2.sl k≠none:=(hN3.bk k (lU st k)).1;obtain⟨lv3,hlb3,ho3,hn3⟩:=id hK3.blk;obtain⟨la,ln,hsh⟩:∃a c,lv3 = .slice a lk.length c:=by
  obtain⟨_,⟨h1,h0⟩|⟨g,c,_,h1,_⟩⟩:=ho3
  . exact⟨none,0,by rw[h1,h0]⟩
  . exact⟨_,_,h1⟩
 subst hsh;have hlt3:=aB hlb3;have hne:(Value.slice la lk.length ln).ownBlock≠some lb:=fun e=>by
  obtain⟨_,⟨e1,_⟩|⟨g,cap,cur,e1,_,e3,_⟩⟩:=ho3
  . rw[e1] at e;simp[Value.ownBlock] at e
  . rw[e1] at e;simp[Value.ownBlock] at e;subst e
    rw[hlb3] at e3;injection e3 with e3;injection e3 with _ e3;exact absurd e3 (by decide)
 have hadd:=ML (TI k) (L3.bk k) hlb3 ho3 (by unfold cD at hl;exact hl) hK3.ge hne;rw[hb3] at hadd;refine hadd.mono ?_;rintro e w4⟨rfl,hA⟩;refine⟨rfl,?_⟩;have hlV:lkV L3 (.slot k) = .iface (TI k) (.pointer (some ⟨L1.bk k,0,none⟩)):=by simp only[lkV,aY,hb3]
 rw[<-hlV] at hA;obtain⟨a1,a2,a3,_⟩:=hK3.add hE3 hl hlb3 (l:=.slot k) hk3 hA;have hF4:FE B st st2 L L3 bs lb fm (lk ++ [.slot k]) w w4:=⟨a2,a1,(hF2.n.trans hN3.toW).trans a3,hF2.g,fun b cs T b1 b2 b3 b4=>by
  obtain⟨x,y⟩:=hF2.f b cs T b1 b2 b3 b4;obtain⟨x3,y3⟩:=hN3.blk x y;refine⟨(hA.far b (aB x3) b2 fun e=>?_).trans x3,y3⟩;obtain⟨_,⟨e1,_⟩|⟨g,cap,cur,e1,_,e3,_⟩⟩:=ho3
  . rw[e1] at e;simp[Value.ownBlock] at e
  . rw[e1] at e;simp[Value.ownBlock] at e;subst e
    rw[x3] at e3;injection e3 with e3;injection e3 with _ e3;exact b1 e3⟩
 have:=hF4.fin hv
 rwa[hb3] at this
theorem Lh{W0:World}{E:eF V}{B:Nat}{st st2:St V}{L:aM}{bs lb p:Nat}{fm lv:Value}{lk:List Lk}{k c:K}{w w1:World}(hS:sA W0 E bs fm)(h:FX W0 B st (st.find k) L bs lb fm lk k p lv w w1)(hin:Lk.slot k∉lk)(he:E k (st.find k)=some (.cyc c,st2)) :
 Calls Tryz.prog 86 #[lv,.iface (TI k) (.pointer (some ⟨p,0,none⟩))] w1 fun e w2=>e = .returned (.bool false)/\
  Hid (Calls Tryz.prog 87 #[.iface (TI k) (.pointer (some ⟨p,0,none⟩)),.bool true] w2 fun e w3=>e = .panicked (oQ c)/\
   Hid (bM B st L bs lb fm k.kind (.cyc c) st2 w (.panicked (oQ c)) w3)):=by
 obtain⟨L1,hF,hFM,rfl,hb⟩:=h;refine (Cz hF.e hF.k (lU st k) hb).mono ?_;rintro e w2⟨rfl,m,rfl⟩;refine⟨by simp[hin],hid ?_⟩;have hF2:=hF.below (below_drewN w1 m);refine (hS _ _ _ _ _ _ hF2.e (by rw[mW];exact hFM.below (below_drewN w1 m)) (lU st k) he).mono ?_;rintro e w3⟨L3,hN3,rfl,h7,hE3⟩;exact⟨rfl,hid ⟨L3,hF2.n.trans hN3.toW,rfl,h7,hE3⟩⟩
theorem GB{wp:K->Prog V}{E:eF V}{k:K}{st st':St V}{out:Out Unit}(h:Go.Proofs.YthibodlojlkppaaGreatDoor.workOut wp E k st=some (out,st')) :
 st.began.length<cD/\((∃v lk s1,run E (k.kind != 7) (wp k) [] {st with began:=st.began ++ [k]}=some (.ok (v,lk),s1)/\answer s1 k v=some st'/\out = .ok ())\/
  (∃c,run E (k.kind != 7) (wp k) [] {st with began:=st.began ++ [k]}=some (.cyc c,st')/\out = .cyc c/\k.kind=7)):=by
 unfold Go.Proofs.YthibodlojlkppaaGreatDoor.workOut at h;split at h
 . rename_i hb
   refine⟨hb,?_⟩;split at h
   . rename_i v lk s1 he
     obtain⟨s,hs,e⟩:=Option.map_eq_some_iff.1 h;cases e;exact .inl ⟨v,lk,s1,he,hs,rfl⟩
   . rename_i c s1 he
     cases h;refine .inr ⟨c,he,rfl,?_⟩;cases h7:(k.kind != 7) with
     | false=>simpa using h7
     | true=>
      rw[h7] at he;exact absurd he (Cx (st:=st) _ _ _)
   . cases h
 . cases h
theorem cQ.lift{lb B:Nat}{st st':St V}{L L':aM}{w wx w':World}(hb:Below w.heap.size w wx)(h:cQ lb B st st' L L' wx w'):cQ lb B st st' L L' w w':=
 ⟨h.bk,h.sb,fun b hb2=>(h.own b hb2).imp id fun x=>Nat.le_trans hb.size x,(FR.of_below hb).trans h.fr fun i hi=>by
  by_cases hlt:i<w.heap.size
  . left
    rcases hi with h1|h1|⟨h1,cs,hc⟩
    . exact .inl h1
    . exact .inr (.inl h1)
    . exact .inr (.inr ⟨h1,cs,by rw[<-hb.block i hlt];exact hc⟩)
  . exact .inr (by omega)⟩
theorem bM.lift{lb B bs kind:Nat}{st st':St V}{L:aM}{fm:Value}{out:Out (V×List Lk)}{w wx w':World}{e:Ending}(hb:Below w.heap.size w wx)(h:bM B st L bs lb fm kind out st' wx e w'):bM B st L bs lb fm kind out st' w e w':=by
 obtain⟨L',hN,h⟩:=h;exact⟨L',hN.lift hb,h⟩
structure WS (W0:World) (B bs lb:Nat) (fm:Value) (st0:St V) (L0:aM) (w0:World) (st:St V) (L:aM) (lk:List Lk) (w:World):Prop where
 e:bN st L none bs fm w
 k:sB st L bs lb B lk w
 m:FM W0 st.files L fm w
 l0:W0.heap.size<=lb
 b0:W0.heap.size<=B
 n:cQ lb B st0 st L0 L w0 w
theorem WS.start{W0:World}{B bs lb:Nat}{fm:Value}{st:St V}{L:aM}{w:World}(h:bN st L none bs fm w)(hM:FM W0 st.files L fm w){lk:List Lk}(hK:sB st L bs lb B lk w)(h1:W0.heap.size<=lb)(h2:W0.heap.size<=B):WS W0 B bs lb fm st L w st L lk w:=⟨h,hK,hM,h1,h2,cQ.refl _ _ _ _ _⟩
theorem WS.below{W0:World}{B bs lb:Nat}{fm:Value}{st0 st:St V}{L0 L:aM}{w0 w w':World}{lk:List Lk}(h:WS W0 B bs lb fm st0 L0 w0 st L lk w)(hb:Below w.heap.size w w'):WS W0 B bs lb fm st0 L0 w0 st L lk w':=⟨h.e.below hb,h.k.below hb,h.m.below hb,h.l0,h.b0,h.n.below hb⟩
def gV(L:aM)(lb:Nat)(b:Nat):Prop:=¬L.own b/\b≠lb
theorem WS.mine{W0:World}{B bs lb:Nat}{fm:Value}{st0 st:St V}{L0 L:aM}{w0 w:World}{lk:List Lk}(h:WS W0 B bs lb fm st0 L0 w0 st L lk w){b:Nat}(hb:w.heap.size<=b):gV L lb b:=by
 obtain⟨q,sm,bg,kv,arr,hx⟩:=h.e;obtain⟨lv,hl,_⟩:=h.k.blk;have:=aB hl
 exact⟨fun e=>by have:=hx.olt b e;omega,by omega⟩
theorem cQ.mine{lb B:Nat}{st st':St V}{L L':aM}{w w':World}(h:cQ lb B st st' L L' w w'){b:Nat}{o:Obj}(hb:w.heap[b]? = some o)(hm:gV L lb b)(h3:∀cs,o ≠ .cells cs 169):w'.heap[b]? = some o/\gV L' lb b:=
 ⟨(h.blk hb hm.1 hm.2 h3).1,(h.blk hb hm.1 hm.2 h3).2,hm.2⟩
theorem Row.wnext{lb B:Nat}{st st':St V}{L L':aM}{w w':World}{T:TypeId}{v:Value}{n:Nat}{xs:List Value}(h:Row L.own w T v n xs)(hN:cQ lb B st st' L L' w w'){lv:Array Value}{T':TypeId}(hl:w.heap[lb]? = some (.cells lv T'))(h1:T≠T')(h2:T≠169):Row L'.own w' T v n xs:=by
 obtain⟨ao,c,hv,hc,hg⟩:=h;refine⟨ao,c,hv,hc,fun hn=>?_⟩;obtain⟨g,cur,e1,e2,e3,e4⟩:=hg hn;have hne:g≠lb:=fun e=>by
  rw[e,hl] at e3;injection e3 with e3;injection e3 with _ e3;exact h1 e3.symm
 obtain⟨a,b⟩:=hN.blk e3 e2 hne (fun cs e=>by injection e with _ e;exact h2 e);exact⟨g,cur,e1,b,a,e4⟩
def Li(W0:World)(B bs lb:Nat)(fm:Value)(st0:St V)(L0:aM)(w0:World)(st:St V)(L:aM)(w:World)(kind:Nat)(out:Out (V×List Lk))(st':St V):Ending->World->Prop:=fun e w'=>
 ∃L',cQ lb B st st' L L' w w'/\match out with
  | .ok (v,lk)=>(∃vs,e = .returned (gU kind vs)/\bO L'.own w' kind (some v) vs)/\WS W0 B bs lb fm st0 L0 w0 st' L' lk w'
  | .error c=>e = .panicked (oQ c)/\cQ lb B st0 st' L0 L' w0 w'/\c.kind=7/\bN st' L' (some c) bs fm w'
theorem Bb{W0:World}{B bs lb:Nat}{fm:Value}{st0 st:St V}{L0 L:aM}{w0 w:World}{lk:List Lk}(h:WS W0 B bs lb fm st0 L0 w0 st L lk w){kind:Nat}{out:Out (V×List Lk)}{st':St V}(hf:st'.files=st.files){e:Ending}{w':World}(hp:bM B st L bs lb fm kind out st' w e w'):Li W0 B bs lb fm st0 L0 w0 st L w kind out st' e w':=by
 obtain⟨L',hN,h2⟩:=hp;refine⟨L',hN,?_⟩;cases out with
 | ok r=>
  obtain⟨lv,hl,_⟩:=h.k.blk;exact⟨h2.1,h2.2.2,h2.2.1,by rw[hf];exact h.m.wnext hN hl h.l0 h.b0,h.l0,h.b0,h.n.trans hN⟩
 | error c=>exact⟨h2.1,h.n.trans hN,h2.2⟩
theorem WS.done{W0:World}{B bs lb:Nat}{fm:Value}{st0 st:St V}{L0 L:aM}{w0 w:World}{lk:List Lk}(h:WS W0 B bs lb fm st0 L0 w0 st L lk w){kind:Nat}{v:V}{vs:List Value}(hv:bO L.own w kind (some v) vs):bM B st0 L0 bs lb fm kind (.ok (v,lk)) st w0 (.returned (gU kind vs)) w:=
 ⟨L,h.n,⟨vs,rfl,hv⟩,h.k,h.e⟩
theorem WS.doneS{W0:World}{B bs lb:Nat}{fm:Value}{st0 st:St V}{L0 L:aM}{w0 w:World}{lk:List Lk}(h:WS W0 B bs lb fm st0 L0 w0 st L lk w){kind:Nat}(h2:kind≠2)(h3:kind≠3)(h4:kind≠4)(b:ByteArray):bM B st0 L0 bs lb fm kind (.ok (.s b,lk)) st w0 (.returned (.string b)) w:=by
 have:=h.done (kind:=kind) (v:=.s b) (vs:=[.string b]) ⟨h2,h3,h4,rfl⟩
 rwa[show gU kind [.string b] = .string b by simp[gU,h3]] at this
section
variable {E:eF V} {nc:Bool} {lk:List Lk} {st stE:St V} {out:Out (V×List Lk)}
theorem run_get{k:K}{c:V->Prog V}(h:run E nc (.get k c) lk st=some (out,stE)) :
 (∃v lk' st',cE E nc k lk st=some (.ok (v,lk'),st')/\run E nc (c v) lk' st'=some (out,stE))\/(∃c',cE E nc k lk st=some (.cyc c',stE)/\out = .cyc c'/\k.kind=7/\nc=false):=by
 unfold run at h;split at h
 . rename_i v lk' st' he
   exact .inl ⟨v,lk',st',he,h⟩
 . rename_i c' st' he
   cases h;refine .inr ⟨c',he,rfl,?_⟩;unfold cE at he;split at he
   . cases he
   split at he
   . obtain⟨_,_,e⟩:=Option.map_eq_some_iff.1 he
     cases e
   . split at he
     . split at he
       . obtain⟨_,_,e⟩:=Option.map_eq_some_iff.1 he
         cases e
       . cases he
     . rename_i hs
       split at he
       . cases he
       . rename_i hh
         cases nc <;> simp_all
     . cases he
 . cases h
theorem Bc{f:ByteArray}{c:List Tok->Prog V}(h:run E nc (Ce f c) lk st=some (out,stE)):∃l lk' st',cE E nc ⟨2,f,bA⟩ lk st=some (.ok (.t l,lk'),st')/\run E nc (c l) lk' st'=some (out,stE):=by
 rcases run_get h with ⟨v,lk',st',h1,h2⟩|⟨_,_,_,h7,_⟩
 . rcases v with l|⟨l0,b0⟩|l0|b0
   . exact⟨l,lk',st',h1,h2⟩
   . cases h2
   . cases h2
   . cases h2
 . simp at h7
theorem lA{f:ByteArray}{c:List cL->Option Nat->Prog V}(h:run E nc (p8 f c) lk st=some (out,stE)):∃its fl lk' st',cE E nc ⟨3,f,bA⟩ lk st=some (.ok (.r its fl,lk'),st')/\run E nc (c its fl) lk' st'=some (out,stE):=by
 rcases run_get h with ⟨v,lk',st',h1,h2⟩|⟨_,_,_,h7,_⟩
 . rcases v with l0|⟨its,fl⟩|l0|b0
   . cases h2
   . exact⟨its,fl,lk',st',h1,h2⟩
   . cases h2
   . cases h2
 . simp at h7
theorem GC{f:ByteArray}{c:List ByteArray->Prog V}(h:run E nc (Jo f c) lk st=some (out,stE)):∃l lk' st',cE E nc ⟨4,f,bA⟩ lk st=some (.ok (.x l,lk'),st')/\run E nc (c l) lk' st'=some (out,stE):=by
 rcases run_get h with ⟨v,lk',st',h1,h2⟩|⟨_,_,_,h7,_⟩
 . rcases v with l0|⟨l0,b0⟩|l|b0
   . cases h2
   . cases h2
   . exact⟨l,lk',st',h1,h2⟩
   . cases h2
 . simp at h7
theorem mY{k:K}(hk:k.kind≠7){c:ByteArray->Prog V}(h:run E nc (oM k c) lk st=some (out,stE)):∃b lk' st',cE E nc k lk st=some (.ok (.s b,lk'),st')/\run E nc (c b) lk' st'=some (out,stE):=by
 rcases run_get h with ⟨v,lk',st',h1,h2⟩|⟨_,_,_,h7,_⟩
 . rcases v with l0|⟨l0,b0⟩|l0|b
   . cases h2
   . cases h2
   . cases h2
   . exact⟨b,lk',st',h1,h2⟩
 . exact absurd h7 hk
theorem Bd{k:K}{c:ByteArray->Prog V}(h:run E nc (oM k c) lk st=some (out,stE)):(∃b lk' st',cE E nc k lk st=some (.ok (.s b,lk'),st')/\run E nc (c b) lk' st'=some (out,stE))\/(∃c',cE E nc k lk st=some (.cyc c',stE)/\out = .cyc c'/\nc=false):=by
 rcases run_get h with ⟨v,lk',st',h1,h2⟩|⟨c',h1,h2,_,h3⟩
 . rcases v with l0|⟨l0,b0⟩|l0|b
   . cases h2
   . cases h2
   . cases h2
   . exact .inl ⟨b,lk',st',h1,h2⟩
 . exact .inr ⟨c',h1,h2,h3⟩
theorem eO{v:V}(h:run E nc (.ret v) lk st=some (out,stE)):out = .ok (v,lk)/\stE=st:=by
 cases h;exact⟨rfl,rfl⟩
theorem Be{f:ByteArray}{c:Option ByteArray->Prog V}(h:run E nc (.look f c) lk st=some (out,stE)):lk.length<cD/\f.size<=cD/\run E nc (c (st.files f)) (lk ++ [.src f]) (st.source f)=some (out,stE):=by
 change run E nc ⟨.inr (.inr (.inl f)),c⟩ lk st=some (out,stE) at h
 simp only[run] at h;split at h
 . rename_i hc;exact⟨hc.1,hc.2,h⟩
 . cases h
end
theorem bO.keepR{O:Nat->Prop}{w w':World}{kind:Nat}{x:Option V}{vs:List Value}(h:bO O w kind x vs)(hk:∀(b:Nat) (cs:Array Value) (T:TypeId),T≠87->w.heap[b]? = some (.cells cs T)->w'.heap[b]? = some (.cells cs T)):bO O w' kind x vs:=by
 match x,h with
 | some (.inl l),⟨a,v,b,c⟩=>exact⟨a,v,b,c.keepT fun b cs=>hk b cs _ (by decide)⟩
 | some (.inr (.inl (its,f))),⟨a,v,b,c⟩=>exact⟨a,v,b,c.keepT fun b cs=>hk b cs _ (by decide)⟩
 | some (.inr (.inr (.inl l))),⟨a,v,b,c⟩=>exact⟨a,v,b,c.keepT fun b cs=>hk b cs _ (by decide)⟩
 | some (.inr (.inr (.inr b))),h=>exact h
 | none,h=>exact h
theorem Lj{k:K}:TB k≠87:=by
 unfold TB;repeat' split
 all_goals decide
theorem cV.farR{st:St V}{L:aM}{lp:Option K}{bs:Nat}{fm q sm bg kv:Value}{arr:List K}{w w':World}(h:cV st L lp bs fm q sm bg kv arr w)(hs:w.heap.size<=w'.heap.size)
 (hk:∀(b:Nat) (cs:Array Value) (T:TypeId),T≠87->w.heap[b]? = some (.cells cs T)->w'.heap[b]? = some (.cells cs T)) (hmp:∀(b:Nat) (es:Array MapEntry) (n:Nat),w.heap[b]? = some (.map es n)->w'.heap[b]? = some (.map es n)):cV st L lp bs fm q sm bg kv arr w':=by
 refine⟨⟨hk _ _ _ (by decide) h.s,h.bo,fun b hb=>Nat.lt_of_lt_of_le (h.olt b hb) hs,h.sr.keep hmp,fun f c hf=>⟨(h.srb f c hf).1,hk _ _ _ (by decide) (h.srb f c hf).2⟩,h.sri,h.qm,h.sm.keep hmp,h.bg.keep fun b cs=>hk b cs _ (by decide),h.kv.keep fun b cs=>hk b cs _ (by decide),h.perm,h.nd,h.kl,h.ex,fun j n hj=>?_⟩,h.heap⟩;have hc:=h.cell j n hj;obtain⟨x,vs,a,b⟩:=hc.ex;exact⟨⟨x,vs,hk _ _ _ Lj a,b.keepR hk⟩,hc.own⟩
theorem bM.box{B:Nat}{st st':St V}{L:aM}{bs lb kind rb:Nat}{fm:Value}{v:V}{lk:List Lk}{W w':World}{e:Ending}{cs:Array Value}(h:bM B st L bs lb fm kind (.ok (v,lk)) st' W e w')(hb:w'.heap[rb]? = some (.cells cs 87))(h3:W.heap.size<=rb)(i:Nat)(u:Value) :
 bM B st L bs lb fm kind (.ok (v,lk)) st' W e (w'.setCell ⟨rb,i,none⟩ u):=by
 obtain⟨L',hN,⟨vs,he,hv⟩,hK,hE⟩:=h;obtain⟨q,sm,bg,kv,arr,hE⟩:=hE;have hk:∀(b:Nat) (cs':Array Value) (T:TypeId),T≠87->w'.heap[b]? = some (.cells cs' T)->(w'.setCell ⟨rb,i,none⟩ u).heap[b]? = some (.cells cs' T):=fun b cs' T hT hbb=>(aD (fun e=>by
  rw[e,hb] at hbb;injection hbb with hbb;injection hbb with _ hbb;exact hT hbb.symm) _).trans hbb
 have hmp:∀(b:Nat) (es:Array MapEntry) (n:Nat),w'.heap[b]? = some (.map es n)->(w'.setCell ⟨rb,i,none⟩ u).heap[b]? = some (.map es n):=fun b es n hbb=>(aD (fun e=>by
  rw[e,hb] at hbb;injection hbb with hbb;cases hbb) _).trans hbb
 obtain⟨lv,l1,l2,l3⟩:=hK.blk;refine⟨L',⟨hN.bk,hN.sb,hN.own,hN.fr.setCell _ (.inr h3) _⟩,⟨vs,he,hv.keepR hk⟩,⟨⟨lv,hk _ _ _ (by decide) l1,bJ l2 fun g hg=>aD (fun e=>?_) _,l3⟩,hK.nb,by simpa using hK.ge,hK.ex,hK.len⟩,⟨q,sm,bg,kv,arr,hE.farR (by simp) hk hmp⟩⟩;obtain⟨_,⟨e1,_⟩|⟨g',cap,cur,e1,_,e3,_⟩⟩:=l2
 . rw[e1] at hg;simp[Value.ownBlock] at hg
 . rw[e1] at hg;simp[Value.ownBlock] at hg;subst hg
   rw[e,hb] at e3;injection e3 with e3;injection e3 with _ e3;exact absurd e3 (by decide)
theorem GD{W0:World}{E:eF V}{st st':St V}{L:aM}{B bs lb:Nat}{fm:Value}{lk:List Lk}{w:World}{k:K}{nc:Bool}{out:Out (V×List Lk)}(hS:sA W0 E bs fm)(h2:k.kind≠2)(h3:k.kind≠3)(h4:k.kind≠4)(h:bN st L none bs fm w)(hFM:FM W0 st.files L fm w)(hK:sB st L bs lb B lk w)(hm:cE E nc k lk st=some (out,st')){z:Int}{fl nm:ByteArray}(hz:cM k = .agg #[.int .i64 z,.string fl,.string nm]){F G:FuncId}{lo:ByteArray}(hrc:cB bs k.kind = [.func (.func F) #[.pointer (some ⟨bs,0,none⟩)] #[],.func (.func G) #[] #[],.string lo]) :
 Calls Tryz.prog 57 #[ptr lb,.agg #[.int .i64 z,.string fl,.string nm],.agg #[.func (.func F) #[.pointer (some ⟨bs,0,none⟩)] #[],.func (.func G) #[] #[],.string lo]] w (bM B st L bs lb fm k.kind out st' w):=by
 obtain⟨hf,hn⟩:=pH hm;have hway:=zN hm;have hTI:TI k=165:=by simp[TI,h2,h3,h4]
 obtain⟨lv,hb,_,_⟩:=hK.blk;have t0:w.cell? ⟨lb,0,none⟩=some (.pointer (some ⟨bs,1,none⟩)):=aA (i:=0) hb;have HFI:Hid (∀W,Below w.heap.size w W->Calls Tryz.prog 85 #[.pointer (some ⟨bs,1,none⟩),.agg #[.int .i64 z,.string fl,.string nm],.agg #[.func (.func F) #[.pointer (some ⟨bs,0,none⟩)] #[],.func (.func G) #[] #[],.string lo]] W fun e w1=>∃p lv,e = .returned (.pointer (some ⟨p,0,none⟩))/\w1.cell? ⟨lb,1,none⟩=some lv/\Hid (FX W0 B st (st.find k) L bs lb fm lk k p lv w w1)):=hid fun W hw=>by
  have hfi:=MH (h.below hw) k h2 h3 h4 hf hn;rw[hrc,hz] at hfi;refine hfi.mono ?_;rintro e w1⟨L1,rfl,hE1,hN1⟩;have hN:=hN1.lift hw;have hK1:=hK.next hN;obtain⟨lv1,hb1,_,_⟩:=id hK1.blk;exact⟨_,lv1,rfl,aA (i:=1) hb1,hid ⟨L1,⟨hE1,hK1,hN.toW,hK.ge,fun b cs T _ _ b3 b4=>hN.blk b4 b3⟩,hFM.next hN,rfl,hb1⟩⟩
 have HWAY:=hid hway;have HSS:=hid hS;have hb2:=aK (aG (w.alloc (.cells #[.int .i64 z,.string fl,.string nm] 99)) (.cells #[.func (.func F) #[.pointer (some ⟨bs,0,none⟩)] #[],.func (.func G) #[] #[],.string lo] 114)) (aK (aG w (.cells #[.int .i64 z,.string fl,.string nm] 99)) t0);have HBL:=hid (aF (aG w (.cells #[.int .i64 z,.string fl,.string nm] 99)) (aG (w.alloc (.cells #[.int .i64 z,.string fl,.string nm] 99)) (.cells #[.func (.func F) #[.pointer (some ⟨bs,0,none⟩)] #[],.func (.func G) #[] #[],.string lo] 114)));have HRC:=hid hrc;clear hm hway hS hb h hFM hf hn hK hrc hz t0;go_enter Tryz.func57,Tryz.ntmps57;go_wp2_with fail
 have hA2:=aC (.cells #[.func (.func F) #[.pointer (some ⟨bs,0,none⟩)] #[],.func (.func G) #[] #[],.string lo] 114) (aI w (.cells #[.int .i64 z,.string fl,.string nm] 99));have hR:=aI (w.alloc (.cells #[.int .i64 z,.string fl,.string nm] 99)) (.cells #[.func (.func F) #[.pointer (some ⟨bs,0,none⟩)] #[],.func (.func G) #[] #[],.string lo] 114);rw[show (w.alloc (.cells #[.int .i64 z,.string fl,.string nm] 99)).heap.size=w.heap.size+1 from by simp] at hR;generalize (w.alloc (.cells #[.int .i64 z,.string fl,.string nm] 99)).alloc (.cells #[.func (.func F) #[.pointer (some ⟨bs,0,none⟩)] #[],.func (.func G) #[] #[],.string lo] 114)=W at HBL hb2 hA2 hR ⊢;generalize hkb:w.heap.size=kb at hA2 hR ⊢;have k0:W.cell? ⟨kb,0,none⟩=some (.int .i64 z):=aA (i:=0) hA2;have k1:W.cell? ⟨kb,1,none⟩=some (.string fl):=aA (i:=1) hA2;have k2:W.cell? ⟨kb,2,none⟩=some (.string nm):=aA (i:=2) hA2;have r0:W.cell? ⟨kb+1,0,none⟩=some _:=aA (i:=0) hR;have r1:W.cell? ⟨kb+1,1,none⟩=some _:=aA (i:=1) hR;have r2:W.cell? ⟨kb+1,2,none⟩=some _:=aA (i:=2) hR;have HKB:=hid hkb;clear hA2 hR hkb;apply lT (F:=fun (p:Nat) (lv:Value) (w1:World)=>w1.cell? ⟨lb,1,none⟩=some lv/\Hid (FX W0 B st (st.find k) L bs lb fm lk k p lv w w1));case main=>
  intro KEY;go_region_with (refine (HFI.out _ (by first|exact HBL.out|exact aF HBL.out (below_drewN _ 1)|exact aF HBL.out (below_drewN _ 2)|exact aF HBL.out (below_drewN _ 3))).mono ?_;rintro e w1⟨p,lv,rfl,hc1,hx1⟩;have hx2:=hid (And.intro hc1 hx1);clear hc1 hx1)
  all_goals
   exact KEY _ _ _ hx2.out
 case key=>
  intro p lv w1 hx;obtain⟨c1,hx1⟩:=hx;have hfx:=hx1.out;rcases HWAY.out with ⟨v,hin,hv,rfl,rfl⟩|⟨v,a,st2,hin,he,hl,hv,rfl,rfl⟩|⟨c,st2,hin,he,h7,rfl,rfl⟩
  . have hco:=zO hfx hin hv
    rw[hTI] at hco;have HCO:=hid hco;clear HFI HWAY hx1 hfx hin hv hco HBL hb2 k0 k1 k2 r0 r1 r2;go_wp2_with fail
    refine HCO.out.mono ?_;rintro e w2⟨rfl,m,x,pl,vs,sb,hsh,hP,hfr⟩;obtain⟨y,rfl⟩:∃y,vs = [.string y]:=by simpa[bO,h2,h3,h4] using hsh
    have d15:w2.cell? ⟨p,15,none⟩=some (.string y):=sb.cell (i:=15) (by simp[aX,HRC.out]);have HP:=hid hP;clear sb hsh hP hfr HCO;go_wp2_with fail
    go_ret;have h9:=HP.out;rw[show gU k.kind [.string y] = .string y by simp[gU,h3]] at h9;exact h9
  . have hco:=zP HSS.out hfx hin he hl hv
    rw[hTI] at hco;have HCO:=hid hco;clear HFI HWAY hx1 hfx hin he hl hv hco HBL hb2 k0 k1 k2 r0 r1 r2;go_wp2_with fail
    refine HCO.out.mono ?_;rintro e w2⟨rfl,hse⟩;go_wp2_with fail
    refine hse.out.mono ?_;rintro e w3⟨rfl,had⟩;go_wp2_with fail
    refine had.out.mono ?_;rintro e w4⟨rfl,m,x,pl,vs,sb,hsh,hP,hfr⟩;obtain⟨y,rfl⟩:∃y,vs = [.string y]:=by simpa[bO,h2,h3,h4] using hsh
    have d15:w4.cell? ⟨p,15,none⟩=some (.string y):=sb.cell (i:=15) (by simp[aX,HRC.out]);have HP:=hid hP;clear sb hsh hP hfr HCO had hse;go_wp2_with fail
    go_ret;have h9:=HP.out;rw[show gU k.kind [.string y] = .string y by simp[gU,h3]] at h9;exact h9
  . have hco:=Lh HSS.out hfx hin he
    rw[hTI] at hco;have HCO:=hid hco;clear HFI HWAY hx1 hfx hin he hco HBL hb2 k0 k1 k2 r0 r1 r2;go_wp2_with fail
    refine HCO.out.mono ?_;rintro e w2⟨rfl,hse⟩;go_wp2_with fail
    unfold oQ at hse;refine hse.out.mono ?_;rintro e w3⟨rfl,hP⟩;go_wp2_with fail
    exact⟨rfl,hP.out⟩

theorem Ll{W0:World}{E:eF V}{st st':St V}{L:aM}{B bs lb:Nat}{fm:Value}{lk:List Lk}{w:World}{k:K}{nc:Bool}{out:Out (V×List Lk)}(hS:sA W0 E bs fm)(h2:k.kind=2)(h:bN st L none bs fm w)(hFM:FM W0 st.files L fm w)(hK:sB st L bs lb B lk w)(hm:cE E nc k lk st=some (out,st')){z:Int}{fl nm:ByteArray}(hz:cM k = .agg #[.int .i64 z,.string fl,.string nm]){F G:FuncId}(hrc:cB bs k.kind = [.func (.func F) #[.pointer (some ⟨bs,0,none⟩)] #[],.func (.func G) #[] #[],.slice none 0 0]) :
 Calls Tryz.prog 65 #[ptr lb,.agg #[.int .i64 z,.string fl,.string nm],.agg #[.func (.func F) #[.pointer (some ⟨bs,0,none⟩)] #[],.func (.func G) #[] #[],.slice none 0 0]] w (bM B st L bs lb fm k.kind out st' w):=by
 obtain⟨hf,hn⟩:=pH hm;have hway:=zN hm;have hTI:TI k=178:=by simp[TI,h2]
 obtain⟨lv,hb,_,_⟩:=hK.blk;have t0:w.cell? ⟨lb,0,none⟩=some (.pointer (some ⟨bs,1,none⟩)):=aA (i:=0) hb;have HFI:Hid (∀W,Below w.heap.size w W->Calls Tryz.prog 93 #[.pointer (some ⟨bs,1,none⟩),.agg #[.int .i64 z,.string fl,.string nm],.agg #[.func (.func F) #[.pointer (some ⟨bs,0,none⟩)] #[],.func (.func G) #[] #[],.slice none 0 0]] W fun e w1=>∃p lv,e = .returned (.pointer (some ⟨p,0,none⟩))/\w1.cell? ⟨lb,1,none⟩=some lv/\Hid (FX W0 B st (st.find k) L bs lb fm lk k p lv w w1)):=hid fun W hw=>by
  have hfi:=MI (h.below hw) k h2 hf hn;rw[hrc,hz] at hfi;refine hfi.mono ?_;rintro e w1⟨L1,rfl,hE1,hN1⟩;have hN:=hN1.lift hw;have hK1:=hK.next hN;obtain⟨lv1,hb1,_,_⟩:=id hK1.blk;exact⟨_,lv1,rfl,aA (i:=1) hb1,hid ⟨L1,⟨hE1,hK1,hN.toW,hK.ge,fun b cs T _ _ b3 b4=>hN.blk b4 b3⟩,hFM.next hN,rfl,hb1⟩⟩
 have HWAY:=hid hway;have HSS:=hid hS;have hb2:=aK (aG (w.alloc (.cells #[.int .i64 z,.string fl,.string nm] 99)) (.cells #[.func (.func F) #[.pointer (some ⟨bs,0,none⟩)] #[],.func (.func G) #[] #[],.slice none 0 0] 131)) (aK (aG w (.cells #[.int .i64 z,.string fl,.string nm] 99)) t0);have HBL:=hid (aF (aG w (.cells #[.int .i64 z,.string fl,.string nm] 99)) (aG (w.alloc (.cells #[.int .i64 z,.string fl,.string nm] 99)) (.cells #[.func (.func F) #[.pointer (some ⟨bs,0,none⟩)] #[],.func (.func G) #[] #[],.slice none 0 0] 131)));have HRC:=hid hrc;clear hm hway hS hb h hFM hf hn hK hrc hz t0;go_enter Tryz.func65,Tryz.ntmps65;go_wp2_with fail
 have hA2:=aC (.cells #[.func (.func F) #[.pointer (some ⟨bs,0,none⟩)] #[],.func (.func G) #[] #[],.slice none 0 0] 131) (aI w (.cells #[.int .i64 z,.string fl,.string nm] 99));have hR:=aI (w.alloc (.cells #[.int .i64 z,.string fl,.string nm] 99)) (.cells #[.func (.func F) #[.pointer (some ⟨bs,0,none⟩)] #[],.func (.func G) #[] #[],.slice none 0 0] 131);rw[show (w.alloc (.cells #[.int .i64 z,.string fl,.string nm] 99)).heap.size=w.heap.size+1 from by simp] at hR;generalize (w.alloc (.cells #[.int .i64 z,.string fl,.string nm] 99)).alloc (.cells #[.func (.func F) #[.pointer (some ⟨bs,0,none⟩)] #[],.func (.func G) #[] #[],.slice none 0 0] 131)=W at HBL hb2 hA2 hR ⊢;generalize hkb:w.heap.size=kb at hA2 hR ⊢;have k0:W.cell? ⟨kb,0,none⟩=some (.int .i64 z):=aA (i:=0) hA2;have k1:W.cell? ⟨kb,1,none⟩=some (.string fl):=aA (i:=1) hA2;have k2:W.cell? ⟨kb,2,none⟩=some (.string nm):=aA (i:=2) hA2;have r0:W.cell? ⟨kb+1,0,none⟩=some _:=aA (i:=0) hR;have r1:W.cell? ⟨kb+1,1,none⟩=some _:=aA (i:=1) hR;have r2:W.cell? ⟨kb+1,2,none⟩=some _:=aA (i:=2) hR;have HKB:=hid hkb;clear hA2 hR hkb;apply lT (F:=fun (p:Nat) (lv:Value) (w1:World)=>w1.cell? ⟨lb,1,none⟩=some lv/\Hid (FX W0 B st (st.find k) L bs lb fm lk k p lv w w1));case main=>
  intro KEY;go_region_with (refine (HFI.out _ (by first|exact HBL.out|exact aF HBL.out (below_drewN _ 1)|exact aF HBL.out (below_drewN _ 2)|exact aF HBL.out (below_drewN _ 3))).mono ?_;rintro e w1⟨p,lv,rfl,hc1,hx1⟩;have hx2:=hid (And.intro hc1 hx1);clear hc1 hx1)
  all_goals
   exact KEY _ _ _ hx2.out
 case key=>
  intro p lv w1 hx;obtain⟨c1,hx1⟩:=hx;have hfx:=hx1.out;rcases HWAY.out with ⟨v,hin,hv,rfl,rfl⟩|⟨v,a,st2,hin,he,hl,hv,rfl,rfl⟩|⟨c,st2,hin,he,h7,rfl,rfl⟩
  . have hco:=zO hfx hin hv
    rw[hTI] at hco;have HCO:=hid hco;clear HFI HWAY hx1 hfx hin hv hco HBL hb2 k0 k1 k2 r0 r1 r2;go_wp2_with fail
    refine HCO.out.mono ?_;rintro e w2⟨rfl,m,x,pl,vs,sb,hsh,hP,hfr⟩;obtain⟨xa,xm,xc,rfl⟩:∃xa xm xc,vs = [.slice xa xm xc]:=by simpa[bO,h2] using hsh
    have d15:w2.cell? ⟨p,15,none⟩=some (.slice xa xm xc):=sb.cell (i:=15) (by simp[aX,HRC.out]);have HP:=hid hP;clear sb hsh hP hfr HCO;go_wp2_with fail
    go_ret;have h9:=HP.out;rw[show gU k.kind [.slice xa xm xc] = .slice xa xm xc by simp[gU,h2]] at h9;exact h9
  . have hco:=zP HSS.out hfx hin he hl hv
    rw[hTI] at hco;have HCO:=hid hco;clear HFI HWAY hx1 hfx hin he hl hv hco HBL hb2 k0 k1 k2 r0 r1 r2;go_wp2_with fail
    refine HCO.out.mono ?_;rintro e w2⟨rfl,hse⟩;go_wp2_with fail
    refine hse.out.mono ?_;rintro e w3⟨rfl,had⟩;go_wp2_with fail
    refine had.out.mono ?_;rintro e w4⟨rfl,m,x,pl,vs,sb,hsh,hP,hfr⟩;obtain⟨xa,xm,xc,rfl⟩:∃xa xm xc,vs = [.slice xa xm xc]:=by simpa[bO,h2] using hsh
    have d15:w4.cell? ⟨p,15,none⟩=some (.slice xa xm xc):=sb.cell (i:=15) (by simp[aX,HRC.out]);have HP:=hid hP;clear sb hsh hP hfr HCO had hse;go_wp2_with fail
    go_ret;have h9:=HP.out;rw[show gU k.kind [.slice xa xm xc] = .slice xa xm xc by simp[gU,h2]] at h9;exact h9
  . omega
theorem Lm{W0:World}{E:eF V}{st st':St V}{L:aM}{B bs lb:Nat}{fm:Value}{lk:List Lk}{w:World}{k:K}{nc:Bool}{out:Out (V×List Lk)}(hS:sA W0 E bs fm)(h2:k.kind=4)(h:bN st L none bs fm w)(hFM:FM W0 st.files L fm w)(hK:sB st L bs lb B lk w)(hm:cE E nc k lk st=some (out,st')){z:Int}{fl nm:ByteArray}(hz:cM k = .agg #[.int .i64 z,.string fl,.string nm]){F G:FuncId}(hrc:cB bs k.kind = [.func (.func F) #[.pointer (some ⟨bs,0,none⟩)] #[],.func (.func G) #[] #[],.slice none 0 0]) :
 Calls Tryz.prog 73 #[ptr lb,.agg #[.int .i64 z,.string fl,.string nm],.agg #[.func (.func F) #[.pointer (some ⟨bs,0,none⟩)] #[],.func (.func G) #[] #[],.slice none 0 0]] w (bM B st L bs lb fm k.kind out st' w):=by
 obtain⟨hf,hn⟩:=pH hm;have hway:=zN hm;have hTI:TI k=189:=by simp[TI,h2]
 obtain⟨lv,hb,_,_⟩:=hK.blk;have t0:w.cell? ⟨lb,0,none⟩=some (.pointer (some ⟨bs,1,none⟩)):=aA (i:=0) hb;have HFI:Hid (∀W,Below w.heap.size w W->Calls Tryz.prog 99 #[.pointer (some ⟨bs,1,none⟩),.agg #[.int .i64 z,.string fl,.string nm],.agg #[.func (.func F) #[.pointer (some ⟨bs,0,none⟩)] #[],.func (.func G) #[] #[],.slice none 0 0]] W fun e w1=>∃p lv,e = .returned (.pointer (some ⟨p,0,none⟩))/\w1.cell? ⟨lb,1,none⟩=some lv/\Hid (FX W0 B st (st.find k) L bs lb fm lk k p lv w w1)):=hid fun W hw=>by
  have hfi:=MJ (h.below hw) k h2 hf hn;rw[hrc,hz] at hfi;refine hfi.mono ?_;rintro e w1⟨L1,rfl,hE1,hN1⟩;have hN:=hN1.lift hw;have hK1:=hK.next hN;obtain⟨lv1,hb1,_,_⟩:=id hK1.blk;exact⟨_,lv1,rfl,aA (i:=1) hb1,hid ⟨L1,⟨hE1,hK1,hN.toW,hK.ge,fun b cs T _ _ b3 b4=>hN.blk b4 b3⟩,hFM.next hN,rfl,hb1⟩⟩
 have HWAY:=hid hway;have HSS:=hid hS;have hb2:=aK (aG (w.alloc (.cells #[.int .i64 z,.string fl,.string nm] 99)) (.cells #[.func (.func F) #[.pointer (some ⟨bs,0,none⟩)] #[],.func (.func G) #[] #[],.slice none 0 0] 147)) (aK (aG w (.cells #[.int .i64 z,.string fl,.string nm] 99)) t0);have HBL:=hid (aF (aG w (.cells #[.int .i64 z,.string fl,.string nm] 99)) (aG (w.alloc (.cells #[.int .i64 z,.string fl,.string nm] 99)) (.cells #[.func (.func F) #[.pointer (some ⟨bs,0,none⟩)] #[],.func (.func G) #[] #[],.slice none 0 0] 147)));have HRC:=hid hrc;clear hm hway hS hb h hFM hf hn hK hrc hz t0;go_enter Tryz.func73,Tryz.ntmps73;go_wp2_with fail
 have hA2:=aC (.cells #[.func (.func F) #[.pointer (some ⟨bs,0,none⟩)] #[],.func (.func G) #[] #[],.slice none 0 0] 147) (aI w (.cells #[.int .i64 z,.string fl,.string nm] 99));have hR:=aI (w.alloc (.cells #[.int .i64 z,.string fl,.string nm] 99)) (.cells #[.func (.func F) #[.pointer (some ⟨bs,0,none⟩)] #[],.func (.func G) #[] #[],.slice none 0 0] 147);rw[show (w.alloc (.cells #[.int .i64 z,.string fl,.string nm] 99)).heap.size=w.heap.size+1 from by simp] at hR;generalize (w.alloc (.cells #[.int .i64 z,.string fl,.string nm] 99)).alloc (.cells #[.func (.func F) #[.pointer (some ⟨bs,0,none⟩)] #[],.func (.func G) #[] #[],.slice none 0 0] 147)=W at HBL hb2 hA2 hR ⊢;generalize hkb:w.heap.size=kb at hA2 hR ⊢;have k0:W.cell? ⟨kb,0,none⟩=some (.int .i64 z):=aA (i:=0) hA2;have k1:W.cell? ⟨kb,1,none⟩=some (.string fl):=aA (i:=1) hA2;have k2:W.cell? ⟨kb,2,none⟩=some (.string nm):=aA (i:=2) hA2;have r0:W.cell? ⟨kb+1,0,none⟩=some _:=aA (i:=0) hR;have r1:W.cell? ⟨kb+1,1,none⟩=some _:=aA (i:=1) hR;have r2:W.cell? ⟨kb+1,2,none⟩=some _:=aA (i:=2) hR;have HKB:=hid hkb;clear hA2 hR hkb;apply lT (F:=fun (p:Nat) (lv:Value) (w1:World)=>w1.cell? ⟨lb,1,none⟩=some lv/\Hid (FX W0 B st (st.find k) L bs lb fm lk k p lv w w1));case main=>
  intro KEY;go_region_with (refine (HFI.out _ (by first|exact HBL.out|exact aF HBL.out (below_drewN _ 1)|exact aF HBL.out (below_drewN _ 2)|exact aF HBL.out (below_drewN _ 3))).mono ?_;rintro e w1⟨p,lv,rfl,hc1,hx1⟩;have hx2:=hid (And.intro hc1 hx1);clear hc1 hx1)
  all_goals
   exact KEY _ _ _ hx2.out
 case key=>
  intro p lv w1 hx;obtain⟨c1,hx1⟩:=hx;have hfx:=hx1.out;rcases HWAY.out with ⟨v,hin,hv,rfl,rfl⟩|⟨v,a,st2,hin,he,hl,hv,rfl,rfl⟩|⟨c,st2,hin,he,h7,rfl,rfl⟩
  . have hco:=zO hfx hin hv
    rw[hTI] at hco;have HCO:=hid hco;clear HFI HWAY hx1 hfx hin hv hco HBL hb2 k0 k1 k2 r0 r1 r2;go_wp2_with fail
    refine HCO.out.mono ?_;rintro e w2⟨rfl,m,x,pl,vs,sb,hsh,hP,hfr⟩;obtain⟨xa,xm,xc,rfl⟩:∃xa xm xc,vs = [.slice xa xm xc]:=by simpa[bO,h2] using hsh
    have d15:w2.cell? ⟨p,15,none⟩=some (.slice xa xm xc):=sb.cell (i:=15) (by simp[aX,HRC.out]);have HP:=hid hP;clear sb hsh hP hfr HCO;go_wp2_with fail
    go_ret;have h9:=HP.out;rw[show gU k.kind [.slice xa xm xc] = .slice xa xm xc by simp[gU,h2]] at h9;exact h9
  . have hco:=zP HSS.out hfx hin he hl hv
    rw[hTI] at hco;have HCO:=hid hco;clear HFI HWAY hx1 hfx hin he hl hv hco HBL hb2 k0 k1 k2 r0 r1 r2;go_wp2_with fail
    refine HCO.out.mono ?_;rintro e w2⟨rfl,hse⟩;go_wp2_with fail
    refine hse.out.mono ?_;rintro e w3⟨rfl,had⟩;go_wp2_with fail
    refine had.out.mono ?_;rintro e w4⟨rfl,m,x,pl,vs,sb,hsh,hP,hfr⟩;obtain⟨xa,xm,xc,rfl⟩:∃xa xm xc,vs = [.slice xa xm xc]:=by simpa[bO,h2] using hsh
    have d15:w4.cell? ⟨p,15,none⟩=some (.slice xa xm xc):=sb.cell (i:=15) (by simp[aX,HRC.out]);have HP:=hid hP;clear sb hsh hP hfr HCO had hse;go_wp2_with fail
    go_ret;have h9:=HP.out;rw[show gU k.kind [.slice xa xm xc] = .slice xa xm xc by simp[gU,h2]] at h9;exact h9
  . omega
theorem Ln{W0:World}{E:eF V}{st st':St V}{L:aM}{B bs lb:Nat}{fm:Value}{lk:List Lk}{w:World}{k:K}{nc:Bool}{out:Out (V×List Lk)}(hS:sA W0 E bs fm)(h2:k.kind=3)(h:bN st L none bs fm w)(hFM:FM W0 st.files L fm w)(hK:sB st L bs lb B lk w)(hm:cE E nc k lk st=some (out,st')){z:Int}{fl nm:ByteArray}(hz:cM k = .agg #[.int .i64 z,.string fl,.string nm]){F G:FuncId}(hrc:cB bs k.kind = [.func (.func F) #[.pointer (some ⟨bs,0,none⟩)] #[],.func (.func G) #[] #[],.slice none 0 0,.int .i64 0]) :
 Calls Tryz.prog 69 #[ptr lb,.agg #[.int .i64 z,.string fl,.string nm],.agg #[.func (.func F) #[.pointer (some ⟨bs,0,none⟩)] #[],.func (.func G) #[] #[],.slice none 0 0,.int .i64 0]] w (bM B st L bs lb fm k.kind out st' w):=by
 obtain⟨hf,hn⟩:=pH hm;have HSZ:=hid (And.intro hf hn);have HFM:=hid hFM;have hway:=zN hm;have hTI:TI k=184:=by simp[TI,h2]
 have HBL0:Below w.heap.size w (((w.alloc (.cells #[.int .i64 z,.string fl,.string nm] 99)).alloc (.cells #[.func (.func F) #[.pointer (some ⟨bs,0,none⟩)] #[],.func (.func G) #[] #[],.slice none 0 0,.int .i64 0] 142)).alloc (.cells #[.slice none 0 0,.int .i64 0] 87)):=aF (aG w _) (aF (aG (w.alloc (.cells #[.int .i64 z,.string fl,.string nm] 99)) _) (aG ((w.alloc (.cells #[.int .i64 z,.string fl,.string nm] 99)).alloc (.cells #[.func (.func F) #[.pointer (some ⟨bs,0,none⟩)] #[],.func (.func G) #[] #[],.slice none 0 0,.int .i64 0] 142)) _));have hA3:(((w.alloc (.cells #[.int .i64 z,.string fl,.string nm] 99)).alloc (.cells #[.func (.func F) #[.pointer (some ⟨bs,0,none⟩)] #[],.func (.func G) #[] #[],.slice none 0 0,.int .i64 0] 142)).alloc (.cells #[.slice none 0 0,.int .i64 0] 87)).heap[w.heap.size]? = some (.cells #[.int .i64 z,.string fl,.string nm] 99):=aC _ (aC _ (aI w _));have hR3:(((w.alloc (.cells #[.int .i64 z,.string fl,.string nm] 99)).alloc (.cells #[.func (.func F) #[.pointer (some ⟨bs,0,none⟩)] #[],.func (.func G) #[] #[],.slice none 0 0,.int .i64 0] 142)).alloc (.cells #[.slice none 0 0,.int .i64 0] 87)).heap[w.heap.size+1]? = some (.cells #[.func (.func F) #[.pointer (some ⟨bs,0,none⟩)] #[],.func (.func G) #[] #[],.slice none 0 0,.int .i64 0] 142):=by
  refine aC _ ?_;have hR:=aI (w.alloc (.cells #[.int .i64 z,.string fl,.string nm] 99)) (.cells #[.func (.func F) #[.pointer (some ⟨bs,0,none⟩)] #[],.func (.func G) #[] #[],.slice none 0 0,.int .i64 0] 142);rwa[show (w.alloc (.cells #[.int .i64 z,.string fl,.string nm] 99)).heap.size=w.heap.size+1 from by simp] at hR
 have hB3:(((w.alloc (.cells #[.int .i64 z,.string fl,.string nm] 99)).alloc (.cells #[.func (.func F) #[.pointer (some ⟨bs,0,none⟩)] #[],.func (.func G) #[] #[],.slice none 0 0,.int .i64 0] 142)).alloc (.cells #[.slice none 0 0,.int .i64 0] 87)).heap[w.heap.size+1+1]? = some (.cells #[.slice none 0 0,.int .i64 0] 87):=by
  have hR:=aI ((w.alloc (.cells #[.int .i64 z,.string fl,.string nm] 99)).alloc (.cells #[.func (.func F) #[.pointer (some ⟨bs,0,none⟩)] #[],.func (.func G) #[] #[],.slice none 0 0,.int .i64 0] 142)) (.cells #[.slice none 0 0,.int .i64 0] 87);rwa[show ((w.alloc (.cells #[.int .i64 z,.string fl,.string nm] 99)).alloc (.cells #[.func (.func F) #[.pointer (some ⟨bs,0,none⟩)] #[],.func (.func G) #[] #[],.slice none 0 0,.int .i64 0] 142)).heap.size=w.heap.size+1+1 from by simp] at hR
 have HH:=hid h;have HKK:=hid hK;have HRC:=hid hrc;have HZ:=hid hz;have HWAY:=hid hway;have HSS:=hid hS;clear hm hway hS h hK hrc hz hFM hf hn;go_enter Tryz.func69,Tryz.ntmps69;go_wp2_with fail
 generalize ((w.alloc (.cells #[.int .i64 z,.string fl,.string nm] 99)).alloc (.cells #[.func (.func F) #[.pointer (some ⟨bs,0,none⟩)] #[],.func (.func G) #[] #[],.slice none 0 0,.int .i64 0] 142)).alloc (.cells #[.slice none 0 0,.int .i64 0] 87)=W at HBL0 hA3 hR3 hB3 ⊢;generalize hkb:w.heap.size=kb at hA3 hR3 hB3 ⊢;have hW:=HH.out.below HBL0;have hKW:=HKK.out.below HBL0;obtain⟨lv0,hlb0,_,_⟩:=id hKW.blk;have t0:W.cell? ⟨lb,0,none⟩=some (.pointer (some ⟨bs,1,none⟩)):=aA (i:=0) hlb0;have HRB:=hid (show ¬L.own (kb+1+1) from fun e=>by
  obtain⟨q,sm,bg,kv,arr,hx⟩:=HH.out;have:=hx.olt _ e;omega)
 have HRL:=hid (show kb+1+1≠lb from fun e=>by
  obtain⟨_,hl,_,_⟩:=HKK.out.blk;have:=aB hl;omega)
 have HRG:=hid (show w.heap.size<=kb+1+1 by omega);have HB3:=hid hB3;have HBL:=hid HBL0;have HFI:Hid (∀W',Below W.heap.size W W'->Calls Tryz.prog 96 #[.pointer (some ⟨bs,1,none⟩),.agg #[.int .i64 z,.string fl,.string nm],.agg #[.func (.func F) #[.pointer (some ⟨bs,0,none⟩)] #[],.func (.func G) #[] #[],.slice none 0 0,.int .i64 0]] W' fun e w1=>∃p lv,e = .returned (.pointer (some ⟨p,0,none⟩))/\w1.cell? ⟨lb,1,none⟩=some lv/\Hid (FX W0 B st (st.find k) L bs lb fm lk k p lv W w1)):=hid fun W' hw=>by
  have hfi:=MK (hW.below hw) k h2 HSZ.out.1 HSZ.out.2;rw[HRC.out,HZ.out] at hfi;refine hfi.mono ?_;rintro e w1⟨L1,rfl,hE1,hN1⟩;have hN:=hN1.lift hw;have hK1:=hKW.next hN;obtain⟨lv1,hb1,_,_⟩:=id hK1.blk;exact⟨_,lv1,rfl,aA (i:=1) hb1,hid ⟨L1,⟨hE1,hK1,hN.toW,hKW.ge,fun b cs T _ _ b3 b4=>hN.blk b4 b3⟩,(HFM.out.below HBL.out).next hN,rfl,hb1⟩⟩
 have k0:W.cell? ⟨kb,0,none⟩=some (.int .i64 z):=aA (i:=0) hA3;have k1:W.cell? ⟨kb,1,none⟩=some (.string fl):=aA (i:=1) hA3;have k2:W.cell? ⟨kb,2,none⟩=some (.string nm):=aA (i:=2) hA3;have r0:W.cell? ⟨kb+1,0,none⟩=some _:=aA (i:=0) hR3;have r1:W.cell? ⟨kb+1,1,none⟩=some _:=aA (i:=1) hR3;have r2:W.cell? ⟨kb+1,2,none⟩=some _:=aA (i:=2) hR3;have r3:W.cell? ⟨kb+1,3,none⟩=some _:=aA (i:=3) hR3;clear hA3 hR3 hB3 hkb HBL0 hW hKW hlb0;apply lT (F:=fun (p:Nat) (lv:Value) (w1:World)=>w1.cell? ⟨lb,1,none⟩=some lv/\Hid (FX W0 B st (st.find k) L bs lb fm lk k p lv W w1));case main=>
  intro KEY;go_region_with (refine (HFI.out _ (by first|exact Below.refl _ _|exact below_drewN _ 1|exact below_drewN _ 2|exact below_drewN _ 3)).mono ?_;rintro e w1⟨p,lv,rfl,hc1,hx1⟩;have hx2:=hid (And.intro hc1 hx1);clear hc1 hx1)
  all_goals
   exact KEY _ _ _ hx2.out
 case key=>
  intro p lv w1 hx;obtain⟨c1,hx1⟩:=hx;have hfx:=hx1.out;rcases HWAY.out with ⟨v,hin,hv,rfl,rfl⟩|⟨v,a,st2,hin,he,hl,hv,rfl,rfl⟩|⟨c,st2,hin,he,h7,rfl,rfl⟩
  . have hco:=zO hfx hin hv
    rw[hTI] at hco;have HCO:=hid hco;clear HFI HWAY hx1 hfx hin hv hco k0 k1 k2 r0 r1 r2 r3;go_wp2_with fail
    refine HCO.out.mono ?_;rintro e w2⟨rfl,m,x,pl,vs,sb,hsh,hP,hfr⟩;obtain⟨xa,xm,xc,xz,rfl⟩:∃xa xm xc xz,vs = [.slice xa xm xc,.int .i64 xz]:=by simpa[bO,h2] using hsh
    have d16:w2.cell? ⟨p,16,none⟩=some (.slice xa xm xc):=sb.cell (i:=16) (by simp[aX,HRC.out]);have d17:w2.cell? ⟨p,17,none⟩=some (.int .i64 xz):=sb.cell (i:=17) (by simp[aX,HRC.out]);have hbx:=hfr (kb+1+1) _ _ (by decide) HRL.out HRB.out HB3.out;have b0:w2.cell? ⟨kb+1+1,0,none⟩=some (.slice none 0 0):=aA (i:=0) hbx;have b1:w2.cell? ⟨kb+1+1,1,none⟩=some (.int .i64 0):=aA (i:=1) hbx;have f0:w2.frozen? ⟨kb+1+1,0,none⟩=false:=aE hbx;have f1:w2.frozen? ⟨kb+1+1,1,none⟩=false:=aE hbx;have HP:=hid ((((hP.lift HBL.out).box hbx HRG.out 0 (.slice xa xm xc)).box (aH (i:=0) hbx _) HRG.out 1 (.int .i64 xz)));have HBX:=hid hbx;clear sb hsh hP hfr HCO hbx;go_wp2_with fail
    have y0:=aA (i:=0) (aH (i:=1) (aH (i:=0) HBX.out (.slice xa xm xc)) (.int .i64 xz));have y1:=aA (i:=1) (aH (i:=1) (aH (i:=0) HBX.out (.slice xa xm xc)) (.int .i64 xz));refine bodyPost_ret (v:=.agg #[.slice xa xm xc,.int .i64 xz]) (by simp[results,Tryz.results69,go_sem,y0,y1];try rfl) rfl ?_;have h9:=HP.out;rw[show gU k.kind [.slice xa xm xc,.int .i64 xz] = .agg #[.slice xa xm xc,.int .i64 xz] by simp[gU,h2]] at h9;exact h9
  . have hco:=zP HSS.out hfx hin he hl hv
    rw[hTI] at hco;have HCO:=hid hco;clear HFI HWAY hx1 hfx hin he hl hv hco k0 k1 k2 r0 r1 r2 r3;go_wp2_with fail
    refine HCO.out.mono ?_;rintro e w2⟨rfl,hse⟩;go_wp2_with fail
    refine hse.out.mono ?_;rintro e w3⟨rfl,had⟩;go_wp2_with fail
    refine had.out.mono ?_;rintro e w4⟨rfl,m,x,pl,vs,sb,hsh,hP,hfr⟩;obtain⟨xa,xm,xc,xz,rfl⟩:∃xa xm xc xz,vs = [.slice xa xm xc,.int .i64 xz]:=by simpa[bO,h2] using hsh
    have d16:w4.cell? ⟨p,16,none⟩=some (.slice xa xm xc):=sb.cell (i:=16) (by simp[aX,HRC.out]);have d17:w4.cell? ⟨p,17,none⟩=some (.int .i64 xz):=sb.cell (i:=17) (by simp[aX,HRC.out]);have hbx:=hfr (kb+1+1) _ _ (by decide) HRL.out HRB.out HB3.out;have b0:w4.cell? ⟨kb+1+1,0,none⟩=some (.slice none 0 0):=aA (i:=0) hbx;have b1:w4.cell? ⟨kb+1+1,1,none⟩=some (.int .i64 0):=aA (i:=1) hbx;have f0:w4.frozen? ⟨kb+1+1,0,none⟩=false:=aE hbx;have f1:w4.frozen? ⟨kb+1+1,1,none⟩=false:=aE hbx;have HP:=hid ((((hP.lift HBL.out).box hbx HRG.out 0 (.slice xa xm xc)).box (aH (i:=0) hbx _) HRG.out 1 (.int .i64 xz)));have HBX:=hid hbx;clear sb hsh hP hfr HCO had hse hbx;go_wp2_with fail
    have y0:=aA (i:=0) (aH (i:=1) (aH (i:=0) HBX.out (.slice xa xm xc)) (.int .i64 xz));have y1:=aA (i:=1) (aH (i:=1) (aH (i:=0) HBX.out (.slice xa xm xc)) (.int .i64 xz));refine bodyPost_ret (v:=.agg #[.slice xa xm xc,.int .i64 xz]) (by simp[results,Tryz.results69,go_sem,y0,y1];try rfl) rfl ?_;have h9:=HP.out;rw[show gU k.kind [.slice xa xm xc,.int .i64 xz] = .agg #[.slice xa xm xc,.int .i64 xz] by simp[gU,h2]] at h9;exact h9
  . omega
theorem WS.box{W0:World}{B bs lb:Nat}{fm:Value}{st0 st:St V}{L0 L:aM}{w0 w:World}{lk:List Lk}(h:WS W0 B bs lb fm st0 L0 w0 st L lk w){rb:Nat}{cs:Array Value}(hb:w.heap[rb]? = some (.cells cs 87))(h3:w0.heap.size<=rb)(hw:W0.heap.size<=w0.heap.size)(i:Nat)(u:Value):WS W0 B bs lb fm st0 L0 w0 st L lk (w.setCell ⟨rb,i,none⟩ u):=by
 obtain⟨hE,hK,hM,hl0,hb0,hN⟩:=h;obtain⟨q,sm,bg,kv,arr,hE⟩:=hE;have hk:∀(b:Nat) (cs':Array Value) (T:TypeId),T≠87->w.heap[b]? = some (.cells cs' T)->(w.setCell ⟨rb,i,none⟩ u).heap[b]? = some (.cells cs' T):=fun b cs' T hT hbb=>(aD (fun e=>by
  rw[e,hb] at hbb;injection hbb with hbb;injection hbb with _ hbb;exact hT hbb.symm) _).trans hbb
 have hmp:∀(b:Nat) (es:Array MapEntry) (n:Nat),w.heap[b]? = some (.map es n)->(w.setCell ⟨rb,i,none⟩ u).heap[b]? = some (.map es n):=fun b es n hbb=>(aD (fun e=>by
  rw[e,hb] at hbb;injection hbb with hbb;cases hbb) _).trans hbb
 obtain⟨lv,l1,l2,l3⟩:=hK.blk;have hW0:W0.heap.size<=rb:=Nat.le_trans hw h3;refine⟨⟨q,sm,bg,kv,arr,hE.farR (by simp) hk hmp⟩,⟨⟨lv,hk _ _ _ (by decide) l1,bJ l2 fun g hg=>aD (fun e=>?_) _,l3⟩,hK.nb,by simpa using hK.ge,hK.ex,hK.len⟩,⟨hM.sm,hM.mp.imp id fun⟨b,es,n,h1,h2,h3,h4⟩=>⟨b,es,n,h1,h2,hmp b es n h3,h4⟩,⟨hM.low.os,hM.low.tape,hM.low.output,by simpa using hM.low.size,fun k hk=>(aD (fun e=>by omega) _).trans (hM.low.block k hk)⟩,hM.ow⟩,hl0,hb0,⟨hN.bk,hN.sb,hN.own,hN.fr.setCell _ (.inr h3) _⟩⟩;obtain⟨cur,e3⟩:=jG l2 hg;rw[e,hb] at e3;injection e3 with e3;injection e3 with _ e3;exact absurd e3 (by decide)
theorem cQ.box{lb B:Nat}{st st':St V}{L L':aM}{w w':World}(h:cQ lb B st st' L L' w w'){rb:Nat}(h3:w.heap.size<=rb)(i:Nat)(u:Value):cQ lb B st st' L L' w (w'.setCell ⟨rb,i,none⟩ u):=⟨h.bk,h.sb,h.own,h.fr.setCell _ (.inr h3) _⟩
theorem cQ.drop{lb B:Nat}{st st':St V}{L L':aM}{w wx w':World}(hb:Below w.heap.size w wx)(h:cQ lb B st st' L L' wx w'):cQ lb B st st' L L' w w':=h.lift hb
structure dX (W0:World) (E:eF V) (bs:Nat) (fm:Value):Prop where
 s:sA W0 E bs fm
 a:gG E
structure mZ (W0:World) (B bs lb:Nat) (fm:Value) (st0:St V) (L0:aM) (w0:World) (st:St V) (L:aM) (w:World) (st':St V) (L':aM) (lk':List Lk) (w':World):Prop where
 n:cQ lb B st st' L L' w w'
 s:WS W0 B bs lb fm st0 L0 w0 st' L' lk' w'
theorem mZ.lift{W0:World}{B bs lb:Nat}{fm:Value}{st0:St V}{L0:aM}{w0:World}{st:St V}{L:aM}{w wx:World}{st':St V}{L':aM}{lk':List Lk}{w':World}(hb:Below w.heap.size w wx)(h:mZ W0 B bs lb fm st0 L0 w0 st L wx st' L' lk' w'):mZ W0 B bs lb fm st0 L0 w0 st L w st' L' lk' w':=⟨h.n.lift hb,h.s⟩
theorem mZ.below{W0:World}{B bs lb:Nat}{fm:Value}{st0:St V}{L0:aM}{w0:World}{st:St V}{L:aM}{w:World}{st':St V}{L':aM}{lk':List Lk}{w' w2:World}(h:mZ W0 B bs lb fm st0 L0 w0 st L w st' L' lk' w')(hb:Below w'.heap.size w' w2):mZ W0 B bs lb fm st0 L0 w0 st L w st' L' lk' w2:=⟨h.n.below hb,h.s.below hb⟩
section
variable {W0:World} {E:eF V} {B bs lb:Nat} {fm:Value} {st0 st st':St V} {L0 L:aM} {w0 w:World} {lk lk':List Lk} {nc:Bool}
theorem fA(F bs:Nat)(w:World) :
 Calls Tryz.prog 58 #[.func (.func F) #[.pointer (some ⟨bs,0,none⟩)] #[]] w fun e w'=>e = .returned (.agg #[.func (.func F) #[.pointer (some ⟨bs,0,none⟩)] #[],.func (.func 89) #[] #[],.string ⟨#[]⟩])/\Below w.heap.size w w':=by
 have HBL:=hid (aG w (.cells #[.func (.func F) #[.pointer (some ⟨bs,0,none⟩)] #[],.func (.func 89) #[] #[],.string ⟨#[]⟩] 114));go_enter Tryz.func58,Tryz.ntmps58;go_wp2;refine bodyPost_ret (v:=.agg #[.func (.func F) #[.pointer (some ⟨bs,0,none⟩)] #[],.func (.func 89) #[] #[],.string ⟨#[]⟩]) (by simp[results,Tryz.results58,go_sem];try rfl) rfl ?_;exact⟨rfl,HBL.out⟩
theorem GE(hE:dX W0 E bs fm)(hW:WS W0 B bs lb fm st0 L0 w0 st L lk w){k:K}{b:ByteArray}(h2:k.kind≠2)(h3:k.kind≠3)(h4:k.kind≠4)(hm:cE E nc k lk st=some (.ok (.s b,lk'),st')){z:Int}{fl nm:ByteArray}(hz:cM k = .agg #[.int .i64 z,.string fl,.string nm]){F G:FuncId}{lo:ByteArray}(hrc:cB bs k.kind = [.func (.func F) #[.pointer (some ⟨bs,0,none⟩)] #[],.func (.func G) #[] #[],.string lo]) :
 Calls Tryz.prog 57 #[ptr lb,.agg #[.int .i64 z,.string fl,.string nm],.agg #[.func (.func F) #[.pointer (some ⟨bs,0,none⟩)] #[],.func (.func G) #[] #[],.string lo]] w fun e w'=>e = .returned (.string b)/\∃L',mZ W0 B bs lb fm st0 L0 w0 st L w st' L' lk' w':=by
 refine (GD hE.s h2 h3 h4 hW.e hW.m hW.k hm hz hrc).mono ?_;intro e w' hp;obtain⟨L',hN,⟨vs,rfl,hv⟩,hS⟩:=Bb hW (jO hE.a.fil hm) hp;obtain⟨_,_,_,rfl⟩:=hv;exact⟨by simp[gU,h3],L',hN,hS⟩
theorem Od(hE:dX W0 E bs fm)(hW:WS W0 B bs lb fm st0 L0 w0 st L lk w){k c:K}(h2:k.kind≠2)(h3:k.kind≠3)(h4:k.kind≠4)(hm:cE E nc k lk st=some (.cyc c,st')){z:Int}{fl nm:ByteArray}(hz:cM k = .agg #[.int .i64 z,.string fl,.string nm]){F G:FuncId}{lo:ByteArray}(hrc:cB bs k.kind = [.func (.func F) #[.pointer (some ⟨bs,0,none⟩)] #[],.func (.func G) #[] #[],.string lo])(kd:Nat) :
 Calls Tryz.prog 57 #[ptr lb,.agg #[.int .i64 z,.string fl,.string nm],.agg #[.func (.func F) #[.pointer (some ⟨bs,0,none⟩)] #[],.func (.func G) #[] #[],.string lo]] w fun e w'=>e = .panicked (oQ c)/\bM B st0 L0 bs lb fm kd (.cyc c) st' w0 (.panicked (oQ c)) w':=by
 refine (GD hE.s h2 h3 h4 hW.e hW.m hW.k hm hz hrc).mono ?_;intro e w' hp;obtain⟨L',hN,rfl,hN2,h7,hE2⟩:=Bb hW (jO hE.a.fil hm) hp;exact⟨rfl,L',hN2,rfl,h7,hE2⟩
theorem GF(hE:dX W0 E bs fm)(hW:WS W0 B bs lb fm st0 L0 w0 st L lk w){f b:ByteArray}(hm:cE E nc ⟨1,f,bA⟩ lk st=some (.ok (.s b,lk'),st')) :
 Calls Tryz.prog 37 #[ptr bs,ptr lb,.string f] w fun e w'=>e = .returned (.string b)/\∃L',mZ W0 B bs lb fm st0 L0 w0 st L w st' L' lk' w':=by
 have HG:=hid (fun (W:World) (hb:Below w.heap.size w W)=>GE hE (hW.below hb) (k:=⟨1,f,bA⟩) (show (1:Nat)≠2 by decide) (show (1:Nat)≠3 by decide) (show (1:Nat)≠4 by decide) hm (z:=1) (fl:=f) (nm:=bA) rfl (F:=59) (G:=89) (lo:=bA) rfl);clear hE hW hm;have hmf:∀(fn:Fn) (first cap:Array Value) (w:World),(Instr.makeFunc fn first cap).run Tryz.prog w = .ok (.func fn first cap) w:=fun _ _ _ _=>rfl;go_enter Tryz.func37,Tryz.ntmps37;go_wp2_with fail
 refine (fA 59 bs w).mono ?_;rintro e w1⟨rfl,hb⟩;have HB:=hid hb;clear hb;go_wp2_with fail
 refine (HG.out w1 HB.out).mono ?_;rintro e w2⟨rfl,hq⟩;have HQ:=hid hq;clear hq;go_wp2;go_ret;obtain⟨L',hg⟩:=HQ.out;exact⟨rfl,L',hg.lift HB.out⟩
end
end Go.Proofs.YthibodlojlkppaaGreatDoor

/-
  The work of Report.
-/
import Derived.Test.YthibodlojlkppaaGreatDoorB27
set_option linter.unusedVariables false
set_option linter.unusedSectionVars false
set_option linter.unusedSimpArgs false
set_option maxRecDepth 100000
set_option maxHeartbeats 40000000

namespace Go.Proofs.YthibodlojlkppaaGreatDoor
open Go.RowKit
variable [DecidableEq K] [LawfulBEq Lk]
theorem at0 (w:World) (o:Obj):(w.alloc o).drew.heap[w.heap.size]? = some o:=new_heap w o
theorem at01 (w:World) (o o1:Obj):((w.alloc o).alloc o1).drew.heap[w.heap.size]? = some o:=old_heap (w:=w.alloc o) _ (new_heap w o)
theorem at02 (w:World) (o o1 o2:Obj):(((w.alloc o).alloc o1).alloc o2).drew.heap[w.heap.size]? = some o:=old_heap (w:=(w.alloc o).alloc o1) _ (at01 w o o1)
theorem at1 (w:World) (o o1:Obj):((w.alloc o).alloc o1).drew.heap[w.heap.size+1]? = some o1:=by
 have:=new_heap (w.alloc o) o1
 rwa [show (w.alloc o).heap.size=w.heap.size+1 from by simp] at this
theorem at21 (w:World) (o o1 o2:Obj):(((w.alloc o).alloc o1).alloc o2).drew.heap[w.heap.size+1]? = some o1:=old_heap (w:=(w.alloc o).alloc o1) _ (at1 w o o1)
theorem at22 (w:World) (o o1 o2:Obj):(((w.alloc o).alloc o1).alloc o2).drew.heap[w.heap.size+1+1]? = some o2:=by
 have:=new_heap ((w.alloc o).alloc o1) o2
 rwa [show ((w.alloc o).alloc o1).heap.size=w.heap.size+1+1 from by simp] at this
theorem an1 (w:World) (o1:Obj):(w.alloc o1).heap[w.heap.size]? = some o1:=new_heap w o1
theorem an21 (w:World) (o1 o2:Obj):((w.alloc o1).alloc o2).heap[w.heap.size]? = some o1:=old_heap _ (new_heap w o1)
theorem an22 (w:World) (o1 o2:Obj):((w.alloc o1).alloc o2).heap[w.heap.size+1]? = some o2:=by
 have:=new_heap (w.alloc o1) o2
 rwa [show (w.alloc o1).heap.size=w.heap.size+1 from by simp] at this
theorem share2z {α β:Type} {F:α→β→Prop} (T:α→β→Prop) {G:Prop} (main:(∀ a b,F a b→T a b)→G) (key:∀ a b,F a b→T a b):G:=main key
section
variable {W0:World} {B bs lb:Nat} {fm:Value} {st0 st st2:St V} {L0 L:Lay} {w0 w w2:World} {lk2:List Lk} {l:List Tok} {its:List Itx} {fl:Option Nat} {ta ao:Option Addr} {tc c:Nat} {z:Int} {P:Nat→Prop}
def RX (n:Nat) (w X:World):Prop:=Below n w X∧Stays w X
theorem RX.set {n b:Nat} {w X:World} (h:RX n w X) {cs:Array Value} {T:TypeId} (hb:X.heap[b]? = some (.cells cs T)) (hT:ownT T=true) (hn:n≤b) (i:Nat) (u:Value):RX n w (X.setCell ⟨b,i,none⟩ u):=⟨h.1.setCell (p:=⟨b,i,none⟩) hn u,h.2.trans (Stays.set hb hT i u)⟩
theorem RX.al {n:Nat} {w:World} (h:n≤w.heap.size) (o:Obj):RX n w (w.alloc o):=⟨(Below.refl _ _).alloc h o,Stays.below (belowAl (Below.refl _ _) o)⟩
theorem RX.trans {n:Nat} {a b c:World} (h:RX n a b) (k:RX n b c):RX n a c:=⟨h.1.trans k.1,h.2.trans k.2⟩
def RF (n b7 b8:Nat) (s a u:Value) (w X:World):Prop:=RX n w X∧X.heap[b7]? = some (.cells #[s] 82)∧X.heap[b8]? = some (.cells #[a,u] 87)
theorem rfA {n b7 b8:Nat} {s a u s0 a0 u0:Value} {w:World} (h7:w.heap[b7]? = some (.cells #[s0] 82)) (h8:w.heap[b8]? = some (.cells #[a0,u0] 87)) (n7:n≤b7) (n8:n≤b8):RF n b7 b8 s a u w (((w.setCell ⟨b7,0,none⟩ s).setCell ⟨b8,0,none⟩ a).setCell ⟨b8,1,none⟩ u):=by
 have hne:b7≠b8:=fun e=>by rw [e,h8] at h7;injection h7 with h7;injection h7 with _ h7;exact absurd h7 (by decide)
 have k7:=heap_setCell_lit (i:=0) h7 s
 have k8:(w.setCell ⟨b7,0,none⟩ s).heap[b8]? = some (.cells #[a0,u0] 87):=(heap_setCell_ne (fun e=>hne e.symm) s).trans h8
 have m8:=heap_setCell_lit (i:=0) k8 a
 have m7:((w.setCell ⟨b7,0,none⟩ s).setCell ⟨b8,0,none⟩ a).heap[b7]? = some (.cells #[s] 82):=(heap_setCell_ne hne a).trans k7
 exact ⟨RX.set (RX.set (RX.set ⟨Below.refl _ _,Stays.below (Below.refl _ _)⟩ h7 (by decide) n7 0 s) k8 (by decide) n8 0 a) m8 (by decide) n8 1 u,(heap_setCell_ne hne u).trans m7,heap_setCell_lit (i:=1) m8 u⟩
theorem rfB {n b7:Nat} {s a u s0 a0 u0:Value} {w:World} (h7:w.heap[b7]? = some (.cells #[s0] 82)) (n7:n≤b7) (hn:n≤w.heap.size):RF n b7 w.heap.size s a u w ((((w.alloc (.cells #[a0,u0] 87)).setCell ⟨b7,0,none⟩ s).setCell ⟨w.heap.size,0,none⟩ a).setCell ⟨w.heap.size,1,none⟩ u):=by
 have h:=rfA (n:=n) (s:=s) (a:=a) (u:=u) (old_heap (.cells #[a0,u0] 87) h7) (new_heap w _) n7 hn
 exact ⟨(RX.al hn _).trans h.1,h.2⟩
theorem rfC {n b8:Nat} {s a u a0 u0:Value} {w:World} (h8:w.heap[b8]? = some (.cells #[a0,u0] 87)) (n8:n≤b8) (hn:n≤w.heap.size):RF n w.heap.size b8 s a u w (((w.alloc (.cells #[s] 82)).setCell ⟨b8,0,none⟩ a).setCell ⟨b8,1,none⟩ u):=by
 have hlt:=heap_lt h8
 have k8:=old_heap (.cells #[s] 82) h8
 have m8:=heap_setCell_lit (i:=0) k8 a
 have k7:=new_heap w (.cells #[s] 82)
 have hne:w.heap.size≠b8:=by omega
 exact ⟨(RX.al hn _).trans (RX.set (RX.set ⟨Below.refl _ _,Stays.below (Below.refl _ _)⟩ k8 (by decide) n8 0 a) m8 (by decide) n8 1 u),(heap_setCell_ne hne u).trans ((heap_setCell_ne hne a).trans k7),heap_setCell_lit (i:=1) m8 u⟩
theorem rfD {n:Nat} {s a u:Value} {w:World} (hn:n≤w.heap.size):RF n w.heap.size (w.heap.size+1) s a u w ((w.alloc (.cells #[s] 82)).alloc (.cells #[a,u] 87)) :=
 ⟨(RX.al hn _).trans (RX.al (by simp;omega) _),an21 _ _ _,an22 _ _ _⟩
theorem rfE {n:Nat} {s a u:Value} {w:World} (hn:n≤w.heap.size):RF n (w.heap.size+1) w.heap.size s a u w ((w.alloc (.cells #[a,u] 87)).alloc (.cells #[s] 82)) :=
 ⟨(RX.al hn _).trans (RX.al (by simp;omega) _),an22 _ _ _,an21 _ _ _⟩
def RQ (W0:World) (B bs lb:Nat) (fm:Value) (st:St V) (L:Lay) (w:World) (st2:St V) (lk2:List Lk) (l:List Tok) (its:List Itx) (fl:Option Nat) (z:Int) (kb:Nat) (ko:Array Value) (ta:Option Addr) (tc:Nat) (ao:Option Addr) (c:Nat) (b7 b8:Nat) (X:World):Prop :=
 ∃ L',WS W0 B bs lb fm st L w st2 L' lk2 X∧Row L'.own X 121 (.slice ta l.length tc) l.length (tokCells l)∧TRow L' X ao c its∧(∃ s:ByteArray,s.size≤400∧l=lexAll s)∧(∃ s:ByteArray,s.size≤400∧(its,fl)=treeX (lexAll s))∧(X.heap[kb]? = some (.cells ko 99)∧Mine L' lb kb)∧(X.heap[b7]? = some (.cells #[.slice ta l.length tc] 82)∧Mine L' lb b7)∧(X.heap[b8]? = some (.cells #[.slice ao its.length c, .int .i64 z] 87)∧Mine L' lb b8)
theorem rqOf (hq:Hid (PQ W0 B bs lb fm st L w st L w st2 lk2 l ta tc its fl ao c P w2)) (h00:W0.heap.size≤w.heap.size) {kb:Nat} {ko:Array Value} (hk2:w2.heap[kb]? = some (.cells ko 99)) (hPk:P kb) {b7 b8:Nat} (hP7:P b7) (hP8:P b8) {X:World} (hX:RF w.heap.size b7 b8 (.slice ta l.length tc) (.slice ao its.length c) (.int .i64 z) w2 X):RQ W0 B bs lb fm st L w st2 lk2 l its fl z kb ko ta tc ao c b7 b8 X:=by
 obtain ⟨L',hg,h1,h2,h3,h4,hP⟩:=hq.out
 obtain ⟨⟨hb,hs⟩,h7,h8⟩:=hX
 exact ⟨L',hg.s.stays h00 hb hs,h1.stays (by decide) hs,Row.stays h2 (by decide) hs,h3,h4,⟨hs.1 _ _ _ (by decide) hk2,hP _ hPk⟩,⟨h7,hP _ hP7⟩,⟨h8,hP _ hP8⟩⟩
end
theorem workReportC {W0:World} {B bs lb:Nat} {fm:Value} {st:St V} {L:Lay} {w:World} {E:Eng V} (hE:Eng0 W0 E bs fm) (hpt:PT W0.heap.size W0) (hW:WS W0 B bs lb fm st L w st L [] w) (h00:W0.heap.size≤w.heap.size) {kd:Nat} (k2:kd≠2) (k3:kd≠3) (k4:kd≠4) {f nm:ByteArray} {out:Out (V × List Lk)} {stE:St V} (hr:run E true (wReport f) [] st=some (out,stE)) :
 Calls Tryz.prog 77 #[ptr bs,ptr lb, .agg #[.int .i64 kd, .string f, .string nm]] w (WkPost B st L bs lb fm kd out stE w):=by
 rw [wReport_fin] at hr
 obtain ⟨l,lk1,st1,hm,hr⟩:=run_getT hr
 obtain ⟨kz,hkz⟩:∃ kz:Int,kz=(kd:Int):=⟨_,rfl⟩
 rw [←hkz]
 obtain ⟨its,fl,lk2,st2,hm2,hr⟩:=run_getR hr
 have hA:=new_heap w (.cells #[.int .i64 kz, .string f, .string nm] 99)
 have ka1:=heap_cell (i:=1) hA
 have kd1:(w.alloc (.cells #[.int .i64 kz, .string f, .string nm] 99)).drew.cell? ⟨w.heap.size,1,none⟩=_:=ka1
 have HA:=hid hA
 obtain ⟨z,hz⟩:∃ z,faultV fl = .int .i64 z:=by cases fl <;> exact ⟨_,rfl⟩
 have HPA:=hid (pairPQ hE hW (Nat.le_refl _) h00 hm hm2 (below_newK w (.cells #[.int .i64 kz, .string f, .string nm] 99)) (Nat.le_refl _) hA hz)
 have HE:=hid hE
 have HR:=hid hr
 have HZ:=hid hz
 have HKD:=hid (And.intro k2 (And.intro k3 k4))
 clear hE hW hm hr hm2 hA hz k2 k3 k4 hkz
 have HPT:=hid hpt
 have H00:=hid h00
 clear hpt h00
 go_enter Tryz.func77,Tryz.ntmps77
 go_wp2_with fail
 apply share7 (F:=fun (ta:Option Addr) (tc:Nat) (ao:Option Addr) (c:Nat) (b7 b8:Nat) (w9:World)=>RQ W0 B bs lb fm st L w st2 lk2 l its fl z w.heap.size #[.int .i64 kz, .string f, .string nm] ta tc ao c b7 b8 w9)
 case main =>
  intro KEY
  go_region_with (first
   | (refine (HPA.out _ ?hd).mono ?_;(case hd=>first | with_reducible exact Below.refl _ _ | with_reducible exact belowDr (Below.refl _ _) | with_reducible exact belowDr (belowAl (Below.refl _ _) _) | with_reducible exact belowDr (belowAl (belowAl (Below.refl _ _) _) _));rintro e1 w4 ⟨ta,tc,rfl,hk1,hn1⟩;have kb3:=heap_cell (i:=1) hk1;have l4:=heap_lt hk1;have kq0:(w4.alloc (.cells #[.slice none 0 0] 82)).cell? ⟨w.heap.size,1,none⟩=_:=heap_cell (i:=1) (old_heap _ hk1);have kq1:(w4.alloc (.cells #[.slice none 0 0, .int .i64 0] 87)).cell? ⟨w.heap.size,1,none⟩=_:=heap_cell (i:=1) (old_heap _ hk1);have kq2:((w4.alloc (.cells #[.slice none 0 0] 82)).alloc (.cells #[.slice none 0 0, .int .i64 0] 87)).cell? ⟨w.heap.size,1,none⟩=_:=heap_cell (i:=1) (old_heap _ (old_heap _ hk1));have kq3:((w4.alloc (.cells #[.slice none 0 0, .int .i64 0] 87)).alloc (.cells #[.slice none 0 0] 82)).cell? ⟨w.heap.size,1,none⟩=_:=heap_cell (i:=1) (old_heap _ (old_heap _ hk1));(try (have a7:=hn1.1.out (w.heap.size+1) #[.slice none 0 0] 82 (by decide) (by omega) (by first | with_reducible exact at1 _ _ _ | with_reducible exact at21 _ _ _ _ | with_reducible exact at22 _ _ _ _);have a7v0:w4.cell? ⟨w.heap.size+1,0,none⟩=_:=heap_cell (i:=0) a7;have a7f0:w4.frozen? ⟨w.heap.size+1,0,none⟩=false:=heap_frozen a7;have a7n1:w.heap.size+1≠w4.heap.size:=Nat.ne_of_lt (heap_lt a7);have a7n2:w4.heap.size≠w.heap.size+1:=fun e=>a7n1 e.symm;have A7:=hid a7;clear a7));(try (have c7:=hn1.1.out (w.heap.size+1+1) #[.slice none 0 0] 82 (by decide) (by omega) (by first | with_reducible exact at1 _ _ _ | with_reducible exact at21 _ _ _ _ | with_reducible exact at22 _ _ _ _);have c7v0:w4.cell? ⟨w.heap.size+1+1,0,none⟩=_:=heap_cell (i:=0) c7;have c7f0:w4.frozen? ⟨w.heap.size+1+1,0,none⟩=false:=heap_frozen c7;have c7n1:w.heap.size+1+1≠w4.heap.size:=Nat.ne_of_lt (heap_lt c7);have c7n2:w4.heap.size≠w.heap.size+1+1:=fun e=>c7n1 e.symm;have C7:=hid c7;clear c7));(try (have a8:=hn1.1.out (w.heap.size+1) #[.slice none 0 0, .int .i64 0] 87 (by decide) (by omega) (by first | with_reducible exact at1 _ _ _ | with_reducible exact at21 _ _ _ _ | with_reducible exact at22 _ _ _ _);have a8v0:w4.cell? ⟨w.heap.size+1,0,none⟩=_:=heap_cell (i:=0) a8;have a8f0:w4.frozen? ⟨w.heap.size+1,0,none⟩=false:=heap_frozen a8;have a8v1:w4.cell? ⟨w.heap.size+1,1,none⟩=_:=heap_cell (i:=1) a8;have a8f1:w4.frozen? ⟨w.heap.size+1,1,none⟩=false:=heap_frozen a8;have a8n1:w.heap.size+1≠w4.heap.size:=Nat.ne_of_lt (heap_lt a8);have a8n2:w4.heap.size≠w.heap.size+1:=fun e=>a8n1 e.symm;have A8:=hid a8;clear a8));(try (have c8:=hn1.1.out (w.heap.size+1+1) #[.slice none 0 0, .int .i64 0] 87 (by decide) (by omega) (by first | with_reducible exact at1 _ _ _ | with_reducible exact at21 _ _ _ _ | with_reducible exact at22 _ _ _ _);have c8v0:w4.cell? ⟨w.heap.size+1+1,0,none⟩=_:=heap_cell (i:=0) c8;have c8f0:w4.frozen? ⟨w.heap.size+1+1,0,none⟩=false:=heap_frozen c8;have c8v1:w4.cell? ⟨w.heap.size+1+1,1,none⟩=_:=heap_cell (i:=1) c8;have c8f1:w4.frozen? ⟨w.heap.size+1+1,1,none⟩=false:=heap_frozen c8;have c8n1:w.heap.size+1+1≠w4.heap.size:=Nat.ne_of_lt (heap_lt c8);have c8n2:w4.heap.size≠w.heap.size+1+1:=fun e=>c8n1 e.symm;have C8:=hid c8;clear c8)))
   | (refine (hn1.2.out _ ?hd).mono ?_;(case hd=>first | with_reducible exact Below.refl _ _ | with_reducible exact belowAl (Below.refl _ _) _ | with_reducible exact belowAl (belowAl (Below.refl _ _) _) _);rintro e1 w2 ⟨ao,c,rfl,hk2,hm2,hq⟩;have l2:=heap_lt hk2;(try (have a7Q:=A7;have a7:=hm2.out (w.heap.size+1) #[.slice none 0 0] 82 (by decide) (.inl ⟨by omega,by first | exact heap_lt (at1 _ _ _) | exact heap_lt (at21 _ _ _ _) | exact heap_lt (at22 _ _ _ _)⟩) (by first | with_reducible exact A7.out | with_reducible exact old_heap _ A7.out | with_reducible exact old_heap _ (old_heap _ A7.out));have a7w0:w2.cell? ⟨w.heap.size+1,0,none⟩=_:=heap_cell (i:=0) a7;have a7g0:w2.frozen? ⟨w.heap.size+1,0,none⟩=false:=heap_frozen a7;have a7x0:(w2.alloc (.cells #[.slice none 0 0, .int .i64 0] 87)).cell? ⟨w.heap.size+1,0,none⟩=_:=heap_cell (i:=0) (old_heap _ a7);have a7y0:(w2.alloc (.cells #[.slice none 0 0, .int .i64 0] 87)).frozen? ⟨w.heap.size+1,0,none⟩=false:=heap_frozen (old_heap _ a7);have a7n3:w.heap.size+1≠w2.heap.size:=Nat.ne_of_lt (heap_lt a7);have a7n4:w2.heap.size≠w.heap.size+1:=fun e=>a7n3 e.symm;have A7w:=hid a7;clear a7));(try (have c7Q:=C7;have c7:=hm2.out (w.heap.size+1+1) #[.slice none 0 0] 82 (by decide) (.inl ⟨by omega,by first | exact heap_lt (at1 _ _ _) | exact heap_lt (at21 _ _ _ _) | exact heap_lt (at22 _ _ _ _)⟩) (by first | with_reducible exact C7.out | with_reducible exact old_heap _ C7.out | with_reducible exact old_heap _ (old_heap _ C7.out));have c7w0:w2.cell? ⟨w.heap.size+1+1,0,none⟩=_:=heap_cell (i:=0) c7;have c7g0:w2.frozen? ⟨w.heap.size+1+1,0,none⟩=false:=heap_frozen c7;have c7x0:(w2.alloc (.cells #[.slice none 0 0, .int .i64 0] 87)).cell? ⟨w.heap.size+1+1,0,none⟩=_:=heap_cell (i:=0) (old_heap _ c7);have c7y0:(w2.alloc (.cells #[.slice none 0 0, .int .i64 0] 87)).frozen? ⟨w.heap.size+1+1,0,none⟩=false:=heap_frozen (old_heap _ c7);have c7n3:w.heap.size+1+1≠w2.heap.size:=Nat.ne_of_lt (heap_lt c7);have c7n4:w2.heap.size≠w.heap.size+1+1:=fun e=>c7n3 e.symm;have C7w:=hid c7;clear c7));(try (have a8Q:=A8;have a8:=hm2.out (w.heap.size+1) #[.slice none 0 0, .int .i64 0] 87 (by decide) (.inl ⟨by omega,by first | exact heap_lt (at1 _ _ _) | exact heap_lt (at21 _ _ _ _) | exact heap_lt (at22 _ _ _ _)⟩) (by first | with_reducible exact A8.out | with_reducible exact old_heap _ A8.out | with_reducible exact old_heap _ (old_heap _ A8.out));have a8w0:w2.cell? ⟨w.heap.size+1,0,none⟩=_:=heap_cell (i:=0) a8;have a8g0:w2.frozen? ⟨w.heap.size+1,0,none⟩=false:=heap_frozen a8;have a8w1:w2.cell? ⟨w.heap.size+1,1,none⟩=_:=heap_cell (i:=1) a8;have a8g1:w2.frozen? ⟨w.heap.size+1,1,none⟩=false:=heap_frozen a8;have a8x0:(w2.alloc (.cells #[.slice ta l.length tc] 82)).cell? ⟨w.heap.size+1,0,none⟩=_:=heap_cell (i:=0) (old_heap _ a8);have a8y0:(w2.alloc (.cells #[.slice ta l.length tc] 82)).frozen? ⟨w.heap.size+1,0,none⟩=false:=heap_frozen (old_heap _ a8);have a8x1:(w2.alloc (.cells #[.slice ta l.length tc] 82)).cell? ⟨w.heap.size+1,1,none⟩=_:=heap_cell (i:=1) (old_heap _ a8);have a8y1:(w2.alloc (.cells #[.slice ta l.length tc] 82)).frozen? ⟨w.heap.size+1,1,none⟩=false:=heap_frozen (old_heap _ a8);have a8n3:w.heap.size+1≠w2.heap.size:=Nat.ne_of_lt (heap_lt a8);have a8n4:w2.heap.size≠w.heap.size+1:=fun e=>a8n3 e.symm;have A8w:=hid a8;clear a8));(try (have c8Q:=C8;have c8:=hm2.out (w.heap.size+1+1) #[.slice none 0 0, .int .i64 0] 87 (by decide) (.inl ⟨by omega,by first | exact heap_lt (at1 _ _ _) | exact heap_lt (at21 _ _ _ _) | exact heap_lt (at22 _ _ _ _)⟩) (by first | with_reducible exact C8.out | with_reducible exact old_heap _ C8.out | with_reducible exact old_heap _ (old_heap _ C8.out));have c8w0:w2.cell? ⟨w.heap.size+1+1,0,none⟩=_:=heap_cell (i:=0) c8;have c8g0:w2.frozen? ⟨w.heap.size+1+1,0,none⟩=false:=heap_frozen c8;have c8w1:w2.cell? ⟨w.heap.size+1+1,1,none⟩=_:=heap_cell (i:=1) c8;have c8g1:w2.frozen? ⟨w.heap.size+1+1,1,none⟩=false:=heap_frozen c8;have c8x0:(w2.alloc (.cells #[.slice ta l.length tc] 82)).cell? ⟨w.heap.size+1+1,0,none⟩=_:=heap_cell (i:=0) (old_heap _ c8);have c8y0:(w2.alloc (.cells #[.slice ta l.length tc] 82)).frozen? ⟨w.heap.size+1+1,0,none⟩=false:=heap_frozen (old_heap _ c8);have c8x1:(w2.alloc (.cells #[.slice ta l.length tc] 82)).cell? ⟨w.heap.size+1+1,1,none⟩=_:=heap_cell (i:=1) (old_heap _ c8);have c8y1:(w2.alloc (.cells #[.slice ta l.length tc] 82)).frozen? ⟨w.heap.size+1+1,1,none⟩=false:=heap_frozen (old_heap _ c8);have c8n3:w.heap.size+1+1≠w2.heap.size:=Nat.ne_of_lt (heap_lt c8);have c8n4:w2.heap.size≠w.heap.size+1+1:=fun e=>c8n3 e.symm;have C8w:=hid c8;clear c8));(try (have d7:=hm2.out (w4.heap.size) #[.slice none 0 0] 82 (by decide) (.inr (by omega)) (by first | with_reducible exact an1 _ _ | with_reducible exact an21 _ _ _ | with_reducible exact an22 _ _ _);have d7w0:w2.cell? ⟨w4.heap.size,0,none⟩=_:=heap_cell (i:=0) d7;have d7g0:w2.frozen? ⟨w4.heap.size,0,none⟩=false:=heap_frozen d7;have d7x0:(w2.alloc (.cells #[.slice none 0 0, .int .i64 0] 87)).cell? ⟨w4.heap.size,0,none⟩=_:=heap_cell (i:=0) (old_heap _ d7);have d7y0:(w2.alloc (.cells #[.slice none 0 0, .int .i64 0] 87)).frozen? ⟨w4.heap.size,0,none⟩=false:=heap_frozen (old_heap _ d7);have d7n3:w4.heap.size≠w2.heap.size:=Nat.ne_of_lt (heap_lt d7);have d7n4:w2.heap.size≠w4.heap.size:=fun e=>d7n3 e.symm;have D7w:=hid d7;clear d7));(try (have e7:=hm2.out (w4.heap.size+1) #[.slice none 0 0] 82 (by decide) (.inr (by omega)) (by first | with_reducible exact an1 _ _ | with_reducible exact an21 _ _ _ | with_reducible exact an22 _ _ _);have e7w0:w2.cell? ⟨w4.heap.size+1,0,none⟩=_:=heap_cell (i:=0) e7;have e7g0:w2.frozen? ⟨w4.heap.size+1,0,none⟩=false:=heap_frozen e7;have e7x0:(w2.alloc (.cells #[.slice none 0 0, .int .i64 0] 87)).cell? ⟨w4.heap.size+1,0,none⟩=_:=heap_cell (i:=0) (old_heap _ e7);have e7y0:(w2.alloc (.cells #[.slice none 0 0, .int .i64 0] 87)).frozen? ⟨w4.heap.size+1,0,none⟩=false:=heap_frozen (old_heap _ e7);have e7n3:w4.heap.size+1≠w2.heap.size:=Nat.ne_of_lt (heap_lt e7);have e7n4:w2.heap.size≠w4.heap.size+1:=fun e=>e7n3 e.symm;have E7w:=hid e7;clear e7));(try (have d8:=hm2.out (w4.heap.size) #[.slice none 0 0, .int .i64 0] 87 (by decide) (.inr (by omega)) (by first | with_reducible exact an1 _ _ | with_reducible exact an21 _ _ _ | with_reducible exact an22 _ _ _);have d8w0:w2.cell? ⟨w4.heap.size,0,none⟩=_:=heap_cell (i:=0) d8;have d8g0:w2.frozen? ⟨w4.heap.size,0,none⟩=false:=heap_frozen d8;have d8w1:w2.cell? ⟨w4.heap.size,1,none⟩=_:=heap_cell (i:=1) d8;have d8g1:w2.frozen? ⟨w4.heap.size,1,none⟩=false:=heap_frozen d8;have d8x0:(w2.alloc (.cells #[.slice ta l.length tc] 82)).cell? ⟨w4.heap.size,0,none⟩=_:=heap_cell (i:=0) (old_heap _ d8);have d8y0:(w2.alloc (.cells #[.slice ta l.length tc] 82)).frozen? ⟨w4.heap.size,0,none⟩=false:=heap_frozen (old_heap _ d8);have d8x1:(w2.alloc (.cells #[.slice ta l.length tc] 82)).cell? ⟨w4.heap.size,1,none⟩=_:=heap_cell (i:=1) (old_heap _ d8);have d8y1:(w2.alloc (.cells #[.slice ta l.length tc] 82)).frozen? ⟨w4.heap.size,1,none⟩=false:=heap_frozen (old_heap _ d8);have d8n3:w4.heap.size≠w2.heap.size:=Nat.ne_of_lt (heap_lt d8);have d8n4:w2.heap.size≠w4.heap.size:=fun e=>d8n3 e.symm;have D8w:=hid d8;clear d8));(try (have e8:=hm2.out (w4.heap.size+1) #[.slice none 0 0, .int .i64 0] 87 (by decide) (.inr (by omega)) (by first | with_reducible exact an1 _ _ | with_reducible exact an21 _ _ _ | with_reducible exact an22 _ _ _);have e8w0:w2.cell? ⟨w4.heap.size+1,0,none⟩=_:=heap_cell (i:=0) e8;have e8g0:w2.frozen? ⟨w4.heap.size+1,0,none⟩=false:=heap_frozen e8;have e8w1:w2.cell? ⟨w4.heap.size+1,1,none⟩=_:=heap_cell (i:=1) e8;have e8g1:w2.frozen? ⟨w4.heap.size+1,1,none⟩=false:=heap_frozen e8;have e8x0:(w2.alloc (.cells #[.slice ta l.length tc] 82)).cell? ⟨w4.heap.size+1,0,none⟩=_:=heap_cell (i:=0) (old_heap _ e8);have e8y0:(w2.alloc (.cells #[.slice ta l.length tc] 82)).frozen? ⟨w4.heap.size+1,0,none⟩=false:=heap_frozen (old_heap _ e8);have e8x1:(w2.alloc (.cells #[.slice ta l.length tc] 82)).cell? ⟨w4.heap.size+1,1,none⟩=_:=heap_cell (i:=1) (old_heap _ e8);have e8y1:(w2.alloc (.cells #[.slice ta l.length tc] 82)).frozen? ⟨w4.heap.size+1,1,none⟩=false:=heap_frozen (old_heap _ e8);have e8n3:w4.heap.size+1≠w2.heap.size:=Nat.ne_of_lt (heap_lt e8);have e8n4:w2.heap.size≠w4.heap.size+1:=fun e=>e8n3 e.symm;have E8w:=hid e8;clear e8))))
  all_goals
   first
    | (have hf:=rqOf (z:=z) (b7:=w2.heap.size) (b8:=w2.heap.size+1) hq H00.out hk2 (show _∨_ from .inl ⟨Nat.le_refl _,by first | with_reducible exact heap_lt (at0 _ _) | with_reducible exact heap_lt (at01 _ _ _) | with_reducible exact heap_lt (at02 _ _ _ _)⟩) (show _∨_∨_ from .inr (.inr (Nat.le_refl _))) (show _∨_∨_ from .inr (.inr (Nat.le_succ _))) (rfD (by omega));generalize (w2.alloc (.cells #[(.slice ta l.length tc)] 82)).alloc (.cells #[(.slice ao its.length c),(.int .i64 z)] 87)=w9 at hf ⊢;generalize w2.heap.size+1=y8 at hf ⊢;generalize w2.heap.size=y7 at hf ⊢;with_reducible exact KEY ta tc ao c y7 y8 w9 hf)
    | (have hf:=rqOf (z:=z) (b7:=w2.heap.size+1) (b8:=w2.heap.size) hq H00.out hk2 (show _∨_ from .inl ⟨Nat.le_refl _,by first | with_reducible exact heap_lt (at0 _ _) | with_reducible exact heap_lt (at01 _ _ _) | with_reducible exact heap_lt (at02 _ _ _ _)⟩) (show _∨_∨_ from .inr (.inr (Nat.le_succ _))) (show _∨_∨_ from .inr (.inr (Nat.le_refl _))) (rfE (by omega));generalize (w2.alloc (.cells #[(.slice ao its.length c),(.int .i64 z)] 87)).alloc (.cells #[(.slice ta l.length tc)] 82)=w9 at hf ⊢;generalize w2.heap.size+1=y7 at hf ⊢;generalize w2.heap.size=y8 at hf ⊢;with_reducible exact KEY ta tc ao c y7 y8 w9 hf)
    | (have hf:=rqOf (z:=z) (b7:=w.heap.size+1) (b8:=w2.heap.size) hq H00.out hk2 (show _∨_ from .inl ⟨Nat.le_refl _,by first | with_reducible exact heap_lt (at0 _ _) | with_reducible exact heap_lt (at01 _ _ _) | with_reducible exact heap_lt (at02 _ _ _ _)⟩) (show _∨_ from .inl ⟨by omega,by first | with_reducible exact heap_lt (at1 _ _ _) | with_reducible exact heap_lt (at21 _ _ _ _)⟩) (show _∨_∨_ from .inr (.inr (Nat.le_refl _))) (rfB (a0 := .slice none 0 0) (u0 := .int .i64 0) A7w.out (by omega) (by omega));generalize (((w2.alloc (.cells #[.slice none 0 0, .int .i64 0] 87)).setCell ⟨w.heap.size+1,0,none⟩ (.slice ta l.length tc)).setCell ⟨w2.heap.size,0,none⟩ (.slice ao its.length c)).setCell ⟨w2.heap.size,1,none⟩ (.int .i64 z)=w9 at hf ⊢;generalize w.heap.size+1=y7 at hf ⊢;generalize w2.heap.size=y8 at hf ⊢;with_reducible exact KEY ta tc ao c y7 y8 w9 hf)
    | (have hf:=rqOf (z:=z) (b7:=w4.heap.size) (b8:=w2.heap.size) hq H00.out hk2 (show _∨_ from .inl ⟨Nat.le_refl _,by first | with_reducible exact heap_lt (at0 _ _) | with_reducible exact heap_lt (at01 _ _ _) | with_reducible exact heap_lt (at02 _ _ _ _)⟩) (show _∨_∨_ from .inr (.inl ⟨Nat.le_refl _,by first | with_reducible exact heap_lt (an1 _ _) | with_reducible exact heap_lt (an21 _ _ _)⟩)) (show _∨_∨_ from .inr (.inr (Nat.le_refl _))) (rfB (a0 := .slice none 0 0) (u0 := .int .i64 0) D7w.out (by omega) (by omega));generalize (((w2.alloc (.cells #[.slice none 0 0, .int .i64 0] 87)).setCell ⟨w4.heap.size,0,none⟩ (.slice ta l.length tc)).setCell ⟨w2.heap.size,0,none⟩ (.slice ao its.length c)).setCell ⟨w2.heap.size,1,none⟩ (.int .i64 z)=w9 at hf ⊢;generalize w4.heap.size=y7 at hf ⊢;generalize w2.heap.size=y8 at hf ⊢;with_reducible exact KEY ta tc ao c y7 y8 w9 hf)
    | (have hf:=rqOf (z:=z) (b7:=w2.heap.size) (b8:=w.heap.size+1) hq H00.out hk2 (show _∨_ from .inl ⟨Nat.le_refl _,by first | with_reducible exact heap_lt (at0 _ _) | with_reducible exact heap_lt (at01 _ _ _) | with_reducible exact heap_lt (at02 _ _ _ _)⟩) (show _∨_∨_ from .inr (.inr (Nat.le_refl _))) (show _∨_ from .inl ⟨by omega,by first | with_reducible exact heap_lt (at1 _ _ _) | with_reducible exact heap_lt (at21 _ _ _ _)⟩) (rfC A8w.out (by omega) (by omega));generalize ((w2.alloc (.cells #[(.slice ta l.length tc)] 82)).setCell ⟨w.heap.size+1,0,none⟩ (.slice ao its.length c)).setCell ⟨w.heap.size+1,1,none⟩ (.int .i64 z)=w9 at hf ⊢;generalize w.heap.size+1=y8 at hf ⊢;generalize w2.heap.size=y7 at hf ⊢;with_reducible exact KEY ta tc ao c y7 y8 w9 hf)
    | (have hf:=rqOf (z:=z) (b7:=w2.heap.size) (b8:=w4.heap.size) hq H00.out hk2 (show _∨_ from .inl ⟨Nat.le_refl _,by first | with_reducible exact heap_lt (at0 _ _) | with_reducible exact heap_lt (at01 _ _ _) | with_reducible exact heap_lt (at02 _ _ _ _)⟩) (show _∨_∨_ from .inr (.inr (Nat.le_refl _))) (show _∨_∨_ from .inr (.inl ⟨Nat.le_refl _,by first | with_reducible exact heap_lt (an1 _ _) | with_reducible exact heap_lt (an21 _ _ _)⟩)) (rfC D8w.out (by omega) (by omega));generalize ((w2.alloc (.cells #[(.slice ta l.length tc)] 82)).setCell ⟨w4.heap.size,0,none⟩ (.slice ao its.length c)).setCell ⟨w4.heap.size,1,none⟩ (.int .i64 z)=w9 at hf ⊢;generalize w2.heap.size=y7 at hf ⊢;generalize w4.heap.size=y8 at hf ⊢;with_reducible exact KEY ta tc ao c y7 y8 w9 hf)
    | (have hf:=rqOf (z:=z) (b7:=w.heap.size+1) (b8:=w.heap.size+1+1) hq H00.out hk2 (show _∨_ from .inl ⟨Nat.le_refl _,by first | with_reducible exact heap_lt (at0 _ _) | with_reducible exact heap_lt (at01 _ _ _) | with_reducible exact heap_lt (at02 _ _ _ _)⟩) (show _∨_ from .inl ⟨by omega,by first | with_reducible exact heap_lt (at1 _ _ _) | with_reducible exact heap_lt (at21 _ _ _ _)⟩) (show _∨_ from .inl ⟨by omega,by with_reducible exact heap_lt (at22 _ _ _ _)⟩) (rfA A7w.out C8w.out (by omega) (by omega));generalize ((w2.setCell ⟨w.heap.size+1,0,none⟩ (.slice ta l.length tc)).setCell ⟨w.heap.size+1+1,0,none⟩ (.slice ao its.length c)).setCell ⟨w.heap.size+1+1,1,none⟩ (.int .i64 z)=w9 at hf ⊢;generalize w.heap.size+1+1=y8 at hf ⊢;generalize w.heap.size+1=y7 at hf ⊢;with_reducible exact KEY ta tc ao c y7 y8 w9 hf)
    | (have hf:=rqOf (z:=z) (b7:=w.heap.size+1+1) (b8:=w.heap.size+1) hq H00.out hk2 (show _∨_ from .inl ⟨Nat.le_refl _,by first | with_reducible exact heap_lt (at0 _ _) | with_reducible exact heap_lt (at01 _ _ _) | with_reducible exact heap_lt (at02 _ _ _ _)⟩) (show _∨_ from .inl ⟨by omega,by with_reducible exact heap_lt (at22 _ _ _ _)⟩) (show _∨_ from .inl ⟨by omega,by first | with_reducible exact heap_lt (at1 _ _ _) | with_reducible exact heap_lt (at21 _ _ _ _)⟩) (rfA C7w.out A8w.out (by omega) (by omega));generalize ((w2.setCell ⟨w.heap.size+1+1,0,none⟩ (.slice ta l.length tc)).setCell ⟨w.heap.size+1,0,none⟩ (.slice ao its.length c)).setCell ⟨w.heap.size+1,1,none⟩ (.int .i64 z)=w9 at hf ⊢;generalize w.heap.size+1+1=y7 at hf ⊢;generalize w.heap.size+1=y8 at hf ⊢;with_reducible exact KEY ta tc ao c y7 y8 w9 hf)
    | (have hf:=rqOf (z:=z) (b7:=w.heap.size+1) (b8:=w4.heap.size) hq H00.out hk2 (show _∨_ from .inl ⟨Nat.le_refl _,by first | with_reducible exact heap_lt (at0 _ _) | with_reducible exact heap_lt (at01 _ _ _) | with_reducible exact heap_lt (at02 _ _ _ _)⟩) (show _∨_ from .inl ⟨by omega,by first | with_reducible exact heap_lt (at1 _ _ _) | with_reducible exact heap_lt (at21 _ _ _ _)⟩) (show _∨_∨_ from .inr (.inl ⟨Nat.le_refl _,by first | with_reducible exact heap_lt (an1 _ _) | with_reducible exact heap_lt (an21 _ _ _)⟩)) (rfA A7w.out D8w.out (by omega) (by omega));generalize ((w2.setCell ⟨w.heap.size+1,0,none⟩ (.slice ta l.length tc)).setCell ⟨w4.heap.size,0,none⟩ (.slice ao its.length c)).setCell ⟨w4.heap.size,1,none⟩ (.int .i64 z)=w9 at hf ⊢;generalize w.heap.size+1=y7 at hf ⊢;generalize w4.heap.size=y8 at hf ⊢;with_reducible exact KEY ta tc ao c y7 y8 w9 hf)
    | (have hf:=rqOf (z:=z) (b7:=w4.heap.size) (b8:=w.heap.size+1) hq H00.out hk2 (show _∨_ from .inl ⟨Nat.le_refl _,by first | with_reducible exact heap_lt (at0 _ _) | with_reducible exact heap_lt (at01 _ _ _) | with_reducible exact heap_lt (at02 _ _ _ _)⟩) (show _∨_∨_ from .inr (.inl ⟨Nat.le_refl _,by first | with_reducible exact heap_lt (an1 _ _) | with_reducible exact heap_lt (an21 _ _ _)⟩)) (show _∨_ from .inl ⟨by omega,by first | with_reducible exact heap_lt (at1 _ _ _) | with_reducible exact heap_lt (at21 _ _ _ _)⟩) (rfA D7w.out A8w.out (by omega) (by omega));generalize ((w2.setCell ⟨w4.heap.size,0,none⟩ (.slice ta l.length tc)).setCell ⟨w.heap.size+1,0,none⟩ (.slice ao its.length c)).setCell ⟨w.heap.size+1,1,none⟩ (.int .i64 z)=w9 at hf ⊢;generalize w.heap.size+1=y8 at hf ⊢;generalize w4.heap.size=y7 at hf ⊢;with_reducible exact KEY ta tc ao c y7 y8 w9 hf)
    | (have hf:=rqOf (z:=z) (b7:=w4.heap.size) (b8:=w4.heap.size+1) hq H00.out hk2 (show _∨_ from .inl ⟨Nat.le_refl _,by first | with_reducible exact heap_lt (at0 _ _) | with_reducible exact heap_lt (at01 _ _ _) | with_reducible exact heap_lt (at02 _ _ _ _)⟩) (show _∨_∨_ from .inr (.inl ⟨Nat.le_refl _,by first | with_reducible exact heap_lt (an1 _ _) | with_reducible exact heap_lt (an21 _ _ _)⟩)) (show _∨_∨_ from .inr (.inl ⟨Nat.le_succ _,by with_reducible exact heap_lt (an22 _ _ _)⟩)) (rfA D7w.out E8w.out (by omega) (by omega));generalize ((w2.setCell ⟨w4.heap.size,0,none⟩ (.slice ta l.length tc)).setCell ⟨w4.heap.size+1,0,none⟩ (.slice ao its.length c)).setCell ⟨w4.heap.size+1,1,none⟩ (.int .i64 z)=w9 at hf ⊢;generalize w4.heap.size+1=y8 at hf ⊢;generalize w4.heap.size=y7 at hf ⊢;with_reducible exact KEY ta tc ao c y7 y8 w9 hf)
    | (have hf:=rqOf (z:=z) (b7:=w4.heap.size+1) (b8:=w4.heap.size) hq H00.out hk2 (show _∨_ from .inl ⟨Nat.le_refl _,by first | with_reducible exact heap_lt (at0 _ _) | with_reducible exact heap_lt (at01 _ _ _) | with_reducible exact heap_lt (at02 _ _ _ _)⟩) (show _∨_∨_ from .inr (.inl ⟨Nat.le_succ _,by with_reducible exact heap_lt (an22 _ _ _)⟩)) (show _∨_∨_ from .inr (.inl ⟨Nat.le_refl _,by first | with_reducible exact heap_lt (an1 _ _) | with_reducible exact heap_lt (an21 _ _ _)⟩)) (rfA E7w.out D8w.out (by omega) (by omega));generalize ((w2.setCell ⟨w4.heap.size+1,0,none⟩ (.slice ta l.length tc)).setCell ⟨w4.heap.size,0,none⟩ (.slice ao its.length c)).setCell ⟨w4.heap.size,1,none⟩ (.int .i64 z)=w9 at hf ⊢;generalize w4.heap.size+1=y7 at hf ⊢;generalize w4.heap.size=y8 at hf ⊢;with_reducible exact KEY ta tc ao c y7 y8 w9 hf)
 case key =>
  intro ta tc ao c b7 b8 w9 hq
  obtain ⟨L9,hW9,hrow9,htr9,hsT,⟨sI,hsI,hitI⟩,hk9,h79,h89⟩:=hq
  have HRL:=hid (RL.start hW9 hrow9 htr9 hk9 h79 h89)
  have HT:=hid hsT
  have HN:=hid (its_len hsI hitI)
  have y0:=heap_cell (i:=0) HRL.out.b8.1
  have y1:=heap_cell (i:=1) HRL.out.b8.1
  clear hW9 hrow9 htr9 hsT hsI hitI hk9 h79 h89 HPA HA ka1 kd1
  go_wp2_with fail
  clear y0 y1
  generalize w9.alloc (.cells #[.pointer none, .slice none 0 0] 119)=w10 at HRL ⊢
  generalize w9.heap.size=ob at HRL ⊢
  have HR0:=hid (show run E true (itemsP f l its (finP l fl) its nob) lk2 st2=some (out,stE) from HR.out)
  clear HR
  go_loopg [27] its.length (fun f' vi wr => ∃ (k:Nat) (s:ByteArray) (st':St V) (L':Lay) (lk:List Lk),k+f'=its.length∧vi = .int .i64 (k:Nat)∧RL W0 B bs lb fm st L w l its z w.heap.size #[.int .i64 kz, .string f, .string nm] ta tc ao c b7 b8 ob s st' L' lk wr∧s.size≤k * 2100∧run E true (itemsP f l its (finP l fl) (its.drop k) s) lk st'=some (out,stE))
  case atStart=>exact ⟨0,nob,st2,L9,lk2,by omega,rfl,HRL.out,by decide,HR0.out⟩
  case round =>
   clear HRL HR0
   obtain ⟨k,s,st',L',lk,hk,rfl,hRL,hsz,hr⟩:=hrel
   have hkc:(0:Int)≤(k:Int):=by omega
   by_cases hlt:k < its.length
   · have hlt2:(k:Int) < (its.length:Int):=by omega
     obtain ⟨i,hi⟩:∃ i,its[k]? = some i:=⟨its[k],List.getElem?_eq_getElem hlt⟩
     have hd:its.drop k=i :: its.drop (k+1):=by
      rw [List.drop_eq_getElem_cons hlt]
      congr 1
      rw [List.getElem?_eq_getElem hlt] at hi
      injection hi
     rw [hd] at hr
     simp only [itemsP] at hr
     obtain ⟨g,rfl,c0⟩:=trow_item hRL.ir hi (j:=0) (u := .int .i64 i.kind) rfl
     obtain ⟨g1,e1,c1⟩:=trow_item hRL.ir hi (j:=1) (u := .int .i64 i.num) rfl
     cases e1
     obtain ⟨g2,e2,c2⟩:=trow_item hRL.ir hi (j:=2) (u := .string i.name) rfl
     cases e2
     obtain ⟨g3,e3,c3⟩:=trow_item hRL.ir hi (j:=3) (u := .string i.typ) rfl
     cases e3
     obtain ⟨g4,e4,c4⟩:=trow_item hRL.ir hi (j:=4) (u:=(itOf i).ex) rfl
     cases e4
     have c0:wr.cell? ⟨g,k * 5,none⟩=some (.int .i64 i.kind):=c0
     have hx:=exV_shape i
     generalize (itOf i).ex=x at c4 hx
     have hn:=HN.out
     have hib:=new_heap wr (.cells #[.int .i64 i.kind, .int .i64 i.num, .string i.name, .string i.typ,x] 137)
     have hbw:=belowAl (Below.refl wr.heap.size wr) (.cells #[.int .i64 i.kind, .int .i64 i.num, .string i.name, .string i.typ,x] 137)
     have hRL1:=hRL.below hbw
     have HST:=hid (itemStep HE.out hRL1 H00.out HPT.out HT.out hn (by omega) hx hr hib (hRL.ws.mine (Nat.le_refl _)))
     have hstore:(store ⟨wr.heap.size,4,none⟩ x).run Tryz.prog (wr.alloc (.cells #[.int .i64 i.kind, .int .i64 i.num, .string i.name, .string i.typ, .nilIface] 137)) = .ok () (wr.alloc (.cells #[.int .i64 i.kind, .int .i64 i.num, .string i.name, .string i.typ,x] 137)):=by
      rcases hx with rfl | ⟨T,v,rfl⟩
      · go_simp
      · go_simp
     have m1:=heap_cell (i:=1) hRL1.k.1
     have n0:=heap_cell (i:=0) hRL1.b8.1
     have n1:=heap_cell (i:=1) hRL1.b8.1
     have j0:=heap_cell (i:=0) hib
     have j1:=heap_cell (i:=1) hib
     have j2:=heap_cell (i:=2) hib
     have j3:=heap_cell (i:=3) hib
     have j4:=heap_cell (i:=4) hib
     have HK:=hid hk
     have HSZ:=hid hsz
     clear hRL hRL1 hr hi hd hx hib hbw hk hsz
     go_wp2_with fail
     clear c0 c1 c2 c3 c4 hstore
     apply share2z (F:=fun (_:ByteArray) (w5:World) => ∃ s' st5 L5 lk5,RL W0 B bs lb fm st L w l its z w.heap.size #[.int .i64 kz, .string f, .string nm] (ta) tc (some ⟨g,0,none⟩) c b7 b8 ob s' st5 L5 lk5 w5∧s'.size≤s.size+2100∧run E true (itemsP f l its (finP l fl) (its.drop (k+1)) s') lk5 st5=some (out,stE))
     case main =>
      intro KEY2
      go_region_with (first
       | (go_at_call 110;refine (HST.out _ ?hd).mono ?_;(case hd=>exact ⟨rfl,rfl,rfl,rfl⟩);rintro e4 w4 ⟨t,rfl,hk4,hn4⟩;have i1:=heap_cell (i:=1) hk4;have hn5:=hn4)
       | (go_at_call 109;refine (hn5.out _ ?hd).mono ?_;(case hd=>exact ⟨rfl,rfl,rfl,rfl⟩);rintro e5 w5 ⟨rfl,hf⟩;have HF:=hf))
      all_goals
       exact KEY2 t w5 HF.out
     case key =>
      rintro t w5 ⟨s',st5,L5,lk5,h5,h6,h7⟩
      have HR5:=hid h5
      have HR6:=hid h6
      have HR7:=hid h7
      clear h5 h6 h7
      go_wp2
      go_roundg (its.length - (k+1))
      case rel=>exact ⟨k+1,s',st5,L5,lk5,by have:=HK.out;omega,by go_num,HR5.out,by have:=HR6.out;have:=HSZ.out;omega,HR7.out⟩
      case measure=>have:=HK.out;omega
   · have hke:k=its.length:=by omega
     have hlt2:¬ ((k:Int) < (its.length:Int)):=by omega
     rw [hke,List.drop_length] at hr
     simp only [itemsP] at hr
     have n0:=heap_cell (i:=0) hRL.b8.1
     have n1:=heap_cell (i:=1) hRL.b8.1
     have hn:=HN.out
     have HEND:=hid (fun (s':ByteArray) (wx:World) (h:RL W0 B bs lb fm st L w l its z w.heap.size #[.int .i64 kz, .string f, .string nm] ta tc ao c b7 b8 ob s' st' L' lk wx)=>(reportEnd h H00.out:Calls Tryz.prog 62 #[ptr ob] wx _))
     cases hfl:fl with
     | none =>
      rw [hfl] at hr
      simp only [finP] at hr
      obtain ⟨hout,rfl⟩:=run_ret hr
      have hz:=HZ.out
      rw [hfl] at hz
      injection hz with _ hz
      subst hz
      have HOUT:=hid hout
      have HRL:=hid hRL
      clear hRL hr hout hk hsz
      go_wp2_with fail
      refine (HEND.out _ _ HRL.out).mono ?_
      rintro e4 w4 ⟨rfl,hf⟩
      have HF:=hid hf
      clear hf HEND
      go_wp2
      go_ret
      rw [HOUT.out]
      exact HF.out.doneS HKD.out.1 HKD.out.2.1 HKD.out.2.2 _
     | some b =>
      rw [hfl] at hr
      simp only [finP] at hr
      have hz:=HZ.out
      rw [hfl] at hz
      injection hz with _ hz
      have hzb:((b:Int) == -1)=false:=by rw [beq_eq_false_iff_ne];omega
      subst hz
      have HTL:=hid (hRL.tell H00.out HPT.out HT.out (num:=b) (word:=syn_) (by decide) (by omega) hr)
      clear hRL hr hk hsz
      go_wp2_with fail
      refine HTL.out.mono ?_
      rintro e4 w4 ⟨rfl,hf⟩
      obtain ⟨s',h5,_,h7⟩:=hf.out
      obtain ⟨hout,rfl⟩:=run_ret h7
      have HOUT:=hid hout
      have HRL:=hid h5
      clear hf h5 h7 hout HTL
      go_wp2_with fail
      refine (HEND.out _ _ HRL.out).mono ?_
      rintro e5 w5 ⟨rfl,hf⟩
      have HF:=hid hf
      clear hf HEND
      go_wp2
      go_ret
      rw [HOUT.out]
      exact HF.out.doneS HKD.out.1 HKD.out.2.1 HKD.out.2.2 _
end Go.Proofs.YthibodlojlkppaaGreatDoor

/-
  Within a work: a file is looked at; the works of Known and Tokens. The parser: ReadTree. The tokens of a text are well formed. The work of Tree.
-/
import Derived.Test.YthibodlojlkppaaGreatDoorB01
import Derived.Test.YthibodlojlkppaaGreatDoorB06
import Derived.Test.YthibodlojlkppaaGreatDoorB19
set_option linter.unusedVariables false
set_option linter.unusedSectionVars false
set_option linter.unusedSimpArgs false
set_option maxRecDepth 100000
set_option maxHeartbeats 40000000

namespace Go.Proofs.YthibodlojlkppaaGreatDoor
open Go.RowKit
variable [DecidableEq K] [LawfulBEq Lk]
theorem source_ne (st:St V) (f:ByteArray):(st.source f).src f≠none:=by
 by_cases h:st.src f=none
 · rw [source_new h];simp
 · rw [source_old h];exact h
section
variable {W0:World} {E:Eng V} {B bs lb:Nat} {fm:Value} {st0 st st':St V} {L0 L:Lay} {w0 w:World} {lk lk':List Lk} {nc:Bool}
theorem FM.files {W0:World} {F F':ByteArray→Option ByteArray} {L:Lay} {fm:Value} {w:World} (h:FM W0 F L fm w) (e:F'=F):FM W0 F' L fm w:=by rw [e];exact h
theorem src_add (hW:WS W0 B bs lb fm st0 L0 w0 st L lk w) {f:ByteArray} (hl:lk.length < BIG) {L1:Lay} {w1:World} (hE1:ENG (st.source f) L1 none bs fm w1) (hN1:Next st (st.source f) L L1 w w1) :
 Calls Tryz.prog 88 #[.pointer (some ⟨lb,0,none⟩), .iface 163 (.pointer (some ⟨L1.sb f,0,none⟩))] w1 fun e w2=>e = .returned (.tuple #[])∧∃ L',Got W0 B bs lb fm st0 L0 w0 st L w (st.source f) L' (lk ++ [.src f]) w2:=by
 have hK1:=hW.k.next hN1
 obtain ⟨lv,hlb,ho,hn⟩:=id hK1.blk
 obtain ⟨la,ln,hsh⟩:∃ a c,lv = .slice a lk.length c:=by
  obtain ⟨_,⟨h1,h0⟩ | ⟨g,c,_,h1,_⟩⟩:=ho
  · exact ⟨none,0,by rw [h1,h0]⟩
  · exact ⟨_,_,h1⟩
 subst hsh
 have hne:(Value.slice la lk.length ln).ownBlock≠some lb:=fun e=>by
  obtain ⟨cur,e3⟩:=own_cells ho e
  rw [hlb] at e3;injection e3 with e3;injection e3 with _ e3;exact absurd e3 (by decide)
 have hadd:=addG 163 (L1.sb f) hlb ho (by unfold BIG at hl;exact hl) hK1.ge hne
 refine hadd.mono ?_
 rintro e w2 ⟨rfl,hA⟩
 obtain ⟨a1,a2,a3,_⟩:=hK1.add hE1 hl hlb (l := .src f) (source_ne st f) hA
 have hM1:FM W0 (st.source f).files L1 fm w1:=(hW.m.next hN1).files (fil_source st f)
 have hN2:=hN1.toW.trans a3
 exact ⟨rfl,L1,hN2,a2,a1,hM1.wnext a3 hlb hW.l0 hW.b0,hW.l0,hW.b0,hW.n.trans hN2⟩
theorem srcW (hW:WS W0 B bs lb fm st0 L0 w0 st L lk w) {f:ByteArray} (hf:f.size≤BIG) (hl:lk.length < BIG) :
 Calls Tryz.prog 119 #[ptr lb, .string f] w fun e w'=>e = .returned (.tuple #[])∧∃ L',Got W0 B bs lb fm st0 L0 w0 st L w (st.source f) L' (lk ++ [.src f]) w':=by
 obtain ⟨lv,hlb,_⟩:=hW.k.blk
 have l0:w.cell? ⟨lb,0,none⟩=some (.pointer (some ⟨bs,1,none⟩)):=heap_cell (i:=0) hlb
 have HW:=hid hW
 have HS:=hid (sourceG hW.e f hf)
 clear hW hlb
 go_enter Tryz.func119,Tryz.ntmps119
 go_wp2_with fail
 refine HS.out.mono ?_
 rintro e w1 ⟨L1,rfl,hE1,hN1⟩
 have HA:=hid (src_add HW.out hl hE1 hN1)
 clear hE1 hN1 HS
 generalize L1.sb f=p at HA ⊢
 go_wp2_with fail
 refine HA.out.mono ?_
 rintro e w2 ⟨rfl,hq⟩
 have HQ:=hid hq
 clear hq
 go_wp2
 go_end0
 exact ⟨rfl,HQ.out⟩
theorem textG (hE:ENG st L none bs fm w) (hM:FM W0 st.files L fm w) (f:ByteArray) :
 Calls Tryz.prog 30 #[ptr bs, .string f] w fun e w'=>e = .returned (.tuple #[.string ((st.files f).getD nob), .bool (st.files f).isSome])∧Below w.heap.size w w':=by
 obtain ⟨q,sm,bg,kv,arr,h⟩:=hE
 have c0:w.cell? ⟨bs,0,none⟩=some fm:=heap_cell (i:=0) h.s
 have hl:=look_file hM f
 obtain ⟨x,hx⟩:∃ x,x=(st.files f).getD nob:=⟨_,rfl⟩
 obtain ⟨b,hb⟩:∃ b,b=(st.files f).isSome:=⟨_,rfl⟩
 rw [←hx,←hb] at hl ⊢
 clear h hM hx hb
 go_enter Tryz.func30,Tryz.ntmps30
 go_wp2
 go_ret2
 exact ⟨rfl,(Below.refl _ _).alloc (Nat.le_refl _) _⟩
theorem lookW (hW:WS W0 B bs lb fm st0 L0 w0 st L lk w) {f:ByteArray} (hf:f.size≤BIG) (hl:lk.length < BIG) :
 Calls Tryz.prog 90 #[ptr bs,ptr lb, .string f] w fun e w'=>e = .returned (.tuple #[.string ((st.files f).getD nob), .bool (st.files f).isSome])∧∃ L',Got W0 B bs lb fm st0 L0 w0 st L w (st.source f) L' (lk ++ [.src f]) w':=by
 have HS:=hid (srcW hW hf hl)
 clear hW
 go_enter Tryz.func90,Tryz.ntmps90
 go_wp2_with fail
 refine HS.out.mono ?_
 rintro e w1 ⟨rfl,L1,hg⟩
 have HT:=hid (textG hg.s.e hg.s.m f)
 rw [fil_source] at HT
 have HG:=hid hg
 clear hg HS
 go_wp2_with fail
 refine HT.out.mono ?_
 rintro e w2 ⟨rfl,hb⟩
 have HB:=hid hb
 clear hb
 go_wp2
 go_ret2
 exact ⟨rfl,L1,HG.out.below HB.out⟩
end
theorem row_of_own {O:Nat→Prop} {w:World} {B z n:Nat} {T:TypeId} {v:Value} {xs:List Value} (h:w.ownsRow B T z v n xs) (hO:∀ g,B≤g→¬ O g):Row O w T v n xs:=by
 obtain ⟨hl,⟨h1,h0⟩ | ⟨g,c,cur,h1,h3,h4,h5,h6,h7,h8⟩⟩:=h
 · subst h1;exact ⟨none,0,by rw [h0],by omega,fun hn=>by omega⟩
 · subst h1
   refine ⟨_,c,rfl,h5,fun hn=>⟨g,cur,rfl,hO g h3,h4,?_⟩⟩
   rw [hl];exact h8
theorem workKnownC {W0:World} {B bs lb:Nat} {fm:Value} {st:St V} {L:Lay} {w:World} (hW:WS W0 B bs lb fm st L w st L [] w) {f nm:ByteArray} {E:Eng V} {nc:Bool} {out:Out (V × List Lk)} {st':St V} (hr:run E nc (.look f fun o => .ret (.s (if o.isSome then yes_ else no_))) [] st=some (out,st')) :
 Calls Tryz.prog 59 #[ptr bs,ptr lb, .agg #[.int .i64 1, .string f, .string nm]] w (WkPost B st L bs lb fm 1 out st' w):=by
 obtain ⟨hl,hf,hr⟩:=run_look hr
 obtain ⟨rfl,rfl⟩:=run_ret hr
 have HB0:=hid (below_newK w (.cells #[.int .i64 1, .string f, .string nm] 99))
 have HS:=hid (lookW (hW.below HB0.out) hf hl)
 have hA:=new_heap w (.cells #[.int .i64 1, .string f, .string nm] 99)
 have a0:(w.alloc (.cells #[.int .i64 1, .string f, .string nm] 99)).cell? ⟨w.heap.size,0,none⟩=some _:=heap_cell (i:=0) hA
 have a1:(w.alloc (.cells #[.int .i64 1, .string f, .string nm] 99)).cell? ⟨w.heap.size,1,none⟩=some _:=heap_cell (i:=1) hA
 have a2:(w.alloc (.cells #[.int .i64 1, .string f, .string nm] 99)).cell? ⟨w.heap.size,2,none⟩=some _:=heap_cell (i:=2) hA
 obtain ⟨b,hb⟩:∃ b,b=(st.files f).isSome:=⟨_,rfl⟩
 rw [←hb] at HS ⊢
 obtain ⟨y,hy⟩:∃ y,y=(if b=true then yes_ else no_):=⟨_,rfl⟩
 rw [←hy]
 have HY:=hid hy
 clear hA hW hr hb hy
 go_enter Tryz.func59,Tryz.ntmps59
 go_wp2_with fail
 refine HS.out.mono ?_
 rintro e w1 ⟨rfl,hg⟩
 have HG:=hid hg
 clear hg
 cases b
 all_goals
  have hy:=HY.out
  simp only [Bool.false_eq_true,if_false,if_true] at hy
  subst hy
  go_wp2
  go_ret
  obtain ⟨L',hg⟩:=HG.out
  exact hg.s.doneS (kind:=1) (by decide) (by decide) (by decide) _
theorem workTokensC {W0:World} {B bs lb:Nat} {fm:Value} {st:St V} {L:Lay} {w:World} (hW:WS W0 B bs lb fm st L w st L [] w) {f nm:ByteArray} {E:Eng V} {nc:Bool} {out:Out (V × List Lk)} {st':St V} (hr:run E nc (.look f fun o => .ret (.t (lexAll (o.getD nob)))) [] st=some (out,st')) :
 Calls Tryz.prog 63 #[ptr bs,ptr lb, .agg #[.int .i64 2, .string f, .string nm]] w (WkPost B st L bs lb fm 2 out st' w):=by
 obtain ⟨hl,hf,hr⟩:=run_look hr
 obtain ⟨rfl,rfl⟩:=run_ret hr
 have HB0:=hid (below_newK w (.cells #[.int .i64 2, .string f, .string nm] 99))
 have HS:=hid (lookW (hW.below HB0.out) hf hl)
 have hA:=new_heap w (.cells #[.int .i64 2, .string f, .string nm] 99)
 have a0:(w.alloc (.cells #[.int .i64 2, .string f, .string nm] 99)).cell? ⟨w.heap.size,0,none⟩=some _:=heap_cell (i:=0) hA
 have a1:(w.alloc (.cells #[.int .i64 2, .string f, .string nm] 99)).cell? ⟨w.heap.size,1,none⟩=some _:=heap_cell (i:=1) hA
 have a2:(w.alloc (.cells #[.int .i64 2, .string f, .string nm] 99)).cell? ⟨w.heap.size,2,none⟩=some _:=heap_cell (i:=2) hA
 have hsz:((st.files f).getD nob).size≤400:=by
  cases hF:st.files f with
  | none=>simp [ByteArray.size]
  | some x=>exact hW.m.sm f x hF
 obtain ⟨x,hx⟩:∃ x,x=(st.files f).getD nob:=⟨_,rfl⟩
 obtain ⟨b,hb⟩:∃ b,b=(st.files f).isSome:=⟨_,rfl⟩
 rw [←hb,←hx] at HS
 rw [←hx] at hsz ⊢
 clear hA hW hr hb hx
 go_enter Tryz.func63,Tryz.ntmps63
 go_wp2_with fail
 refine HS.out.mono ?_
 rintro e w1 ⟨rfl,hg⟩
 have HG:=hid hg
 clear hg
 go_wp2_with fail
 refine (readTokens_any x _ hsz).mono ?_
 rintro e w2 ⟨v,rfl,hown,hb2⟩
 have HO:=hid hown
 have HB2:=hid hb2
 obtain ⟨ao,c,rfl⟩:∃ ao c,v = .slice ao (lexAll x).length c:=by
  obtain ⟨_,⟨h1,h0⟩ | ⟨g,c,_,h1,_⟩⟩:=hown
  · exact ⟨none,0,by rw [h1,h0]⟩
  · exact ⟨_,_,h1⟩
 clear hown hb2
 go_wp2
 go_ret
 obtain ⟨L',hg⟩:=HG.out
 have h2:=hg.s.below HB2.out
 refine h2.done (kind:=2) (v := .t (lexAll x)) (vs:=[.slice ao (lexAll x).length c]) ⟨⟨rfl,x,hsz,rfl⟩,_,rfl,?_⟩
 exact row_of_own HO.out fun g hg1=>fun e=>by
  obtain ⟨q,sm,bg,kv,arr,hx⟩:=hg.s.e
  have:=hx.olt g e
  omega
end Go.Proofs.YthibodlojlkppaaGreatDoor
namespace Go.Proofs.YthibodlojlkppaaGreatDoor
open Go.RowKit
theorem Tryz.infoItem:(Tryz.prog.info? 137).map (fun i=>(i.zero,i.size,i.bytes))=some (some (.agg #[.int .i64 0, .int .i64 0, .string ⟨#[]⟩, .string ⟨#[]⟩, .nilIface]),5,64):=by kernel_rfl
def TreeAt (toks:List Tok) (tb cap:Nat) (w:World) (k:Nat) (wr:World):Prop :=
 ∃ a v acc f,k=f+1∧a < toks.length∧toks.length - a≤f+1∧acc.length≤a∧TS toks tb cap w wr a v acc.length (acc.flatMap itCells) (-1)∧(acc ++ (treeP toks (f+1) a).1,(treeP toks (f+1) a).2)=treeAll toks
theorem five_cells (w:World) (b:Nat) (hb:b=w.heap.size) (x y z u1 u2:Value) (T:TypeId):∀ j u,[x,y,z,u1,u2][j]? = some u→(w.alloc (.cells #[x,y,z,u1,u2] T)).cell? ((⟨b,0,none⟩:Addr).add j)=some u:=by
 subst hb
 intro j u hj
 match j,hj with
 | 0,hj | 1,hj | 2,hj | 3,hj | 4,hj=>simp at hj;subst hj;simp [Addr.add]
 | (n+5),hj=>simp at hj
theorem grown_tree {toks:List Tok} {tb cap:Nat} {w wr w':World} {a:Nat} {v:Value} {n:Nat} {xs:List Value} {fault:Int} (h:TS toks tb cap w wr a v n xs fault) (hg:wr.grownBy w' v.ownBlock) :
 w'.cell? ⟨w.heap.size+1+1,0,none⟩=some v∧w'.frozen? ⟨w.heap.size+1+1,0,none⟩=false:=by
 have hlt:=fun k hk=>(h.own.lt k hk).1
 have:=(hg.block (w.heap.size+1+1) (heap_lt h.tr) fun e=>by have:=hlt _ e.symm;omega).trans h.tr
 exact ⟨heap_cell this,heap_frozen this⟩
theorem readTree_any {toks:List Tok} (hw:Wf toks) (tb cap:Nat) (w:World) (ht:∃ cur,w.heap[tb]? = some (.cells cur 121)∧cur.toList.take (3 * toks.length)=tokCells toks) :
 Calls Tryz.prog 94 #[.slice (some ⟨tb,0,none⟩) toks.length cap] w fun e w' => ∃ v,e = .returned (.agg #[v,faultV (treeAll toks).2])∧w'.ownsRow w.heap.size 137 5 v (treeAll toks).1.length ((treeAll toks).1.flatMap itCells)∧Below w.heap.size w w':=by
 obtain ⟨i0',hi',hz0,hz1,hz2⟩:=info_parts Tryz.infoItem
 have HT0:=hid (TS.start (cap:=cap) ht)
 have HW:=hid hw
 clear hw ht
 go_enter Tryz.func94,Tryz.ntmps94
 go_wp2
 go_loopg [5,6] toks.length (fun k v5 v6 wr=>TreeAt toks tb cap w k wr)
 case atStart=>exact ⟨0,_,[],toks.length - 1,by have:=HW.out.pos;omega,HW.out.pos,by omega,by simp,HT0.out,by rw [show toks.length - 1+1=toks.length from by have:=HW.out.pos;omega];rfl⟩
 case round =>
  clear HT0
  obtain ⟨a,v,acc,f,rfl,ha,hf,hacc,hts,heq⟩:=hrel
  obtain ⟨ao,m,c,rfl⟩:=hts.shape
  have HTS:=hid hts
  have HE:=hid heq
  have HL:=hid HW.out.le
  clear hts heq
  cases he:eqB (tx toks a) ⟨#[]⟩ with
  | true =>
   have HT:Hid ((acc,(none:Option Nat))=treeAll toks):=hid (by have h:=HE.out;simpa [treeP,he] using h)
   have HB:=hid he
   clear he HE
   go_wp2_with (go_at_call 123;go_must (refine (atEnd_any toks _ tb cap a 0 _ HTS.out.ps ha).mono ?_;rw [HB.out];rintro e w1 ⟨rfl,hb⟩;have HT1:=hid (HTS.out.call (Fr.of_below hb) (HTS.out.ps.below hb));clear hb;have q0:=HT1.out.r0;have q1:=HT1.out.r1;have f0:=HT1.out.rf 0;have f1:=HT1.out.rf 1;have t0:=HT1.out.t0;have t1:=HT1.out.t1))
   obtain ⟨hr,hown,hbl⟩:=HT1.out.setR (.slice ao m c) (.int .i64 (-1))
   have y0:=heap_cell (i:=0) hr
   have y1:=heap_cell (i:=1) hr
   refine bodyPost_ret (v := .agg #[.slice ao m c, .int .i64 (-1)]) (by simp [results,Tryz.results94,go_sem,y0,y1];try rfl) rfl ?_
   rw [←HT.out]
   exact ⟨_,rfl,hown,hbl⟩
  | false =>
   rcases hip:itemP toks a with ⟨b,r⟩
   have HIP:=hid hip
   cases r with
   | none =>
    have HT:Hid ((acc,some b)=treeAll toks):=hid (by have h:=HE.out;simpa [treeP,he,hip] using h)
    clear hip HE
    have HB:=hid he
    clear he
    go_wp2_with fail
    refine (atEnd_any toks _ tb cap a 0 _ HTS.out.ps ha).mono ?_
    rw [HB.out]
    rintro e w1 ⟨rfl,hb⟩
    have HT1:=hid (HTS.out.call (Fr.of_below hb) (HTS.out.ps.below hb))
    clear hb
    go_wp2_with fail
    refine (item_any HW.out _ tb cap a _ ha HT1.out.ps).mono ?_
    rw [HIP.out]
    rintro e w2 ⟨⟨v2,rfl,⟨i0,i1,s2,s3,x4,rfl,hi⟩,hx⟩,hP2,hb2,hF2⟩
    have HT2:=hid (HT1.out.call hF2 hP2)
    clear hP2 hF2
    clear hx
    rcases hi with rfl | ⟨t4,v4,rfl⟩
    · have ht3:=HT2.out.alloc (.cells #[.int .i64 i0, .int .i64 i1, .string s2, .string s3, .nilIface] 137)
      have p1:=ht3.ps.c1
      have u1:=ht3.t1
      have uf1:=ht3.tf 1
      have ht4:=ht3.faulty b
      have t0:=ht4.t0
      have t1:=ht4.t1
      have q0:=ht4.r0
      have q1:=ht4.r1
      have f0:=ht4.rf 0
      have f1:=ht4.rf 1
      obtain ⟨hr,hown,hbl⟩:=ht4.setR (.slice ao m c) (.int .i64 b)
      have y0:World.cell? _ ⟨w.heap.size,0,none⟩=some (.slice ao m c):=heap_cell (i:=0) hr
      have y1:World.cell? _ ⟨w.heap.size,1,none⟩=some (.int .i64 b):=heap_cell (i:=1) hr
      have HR:=hid hown
      have HBL:=hid hbl
      clear ht3 ht4 hr hown hbl
      go_wp2
      refine bodyPost_ret (v := .agg #[.slice ao m c, .int .i64 b]) (by simp [results,Tryz.results94,go_sem,y0,y1];try rfl) rfl ?_
      rw [←HT.out]
      exact ⟨_,rfl,HR.out,HBL.out⟩
    · have ht3:=HT2.out.alloc (.cells #[.int .i64 i0, .int .i64 i1, .string s2, .string s3, .iface t4 v4] 137)
      have p1:=ht3.ps.c1
      have u1:=ht3.t1
      have uf1:=ht3.tf 1
      have ht4:=ht3.faulty b
      have t0:=ht4.t0
      have t1:=ht4.t1
      have q0:=ht4.r0
      have q1:=ht4.r1
      have f0:=ht4.rf 0
      have f1:=ht4.rf 1
      obtain ⟨hr,hown,hbl⟩:=ht4.setR (.slice ao m c) (.int .i64 b)
      have y0:World.cell? _ ⟨w.heap.size,0,none⟩=some (.slice ao m c):=heap_cell (i:=0) hr
      have y1:World.cell? _ ⟨w.heap.size,1,none⟩=some (.int .i64 b):=heap_cell (i:=1) hr
      have HR:=hid hown
      have HBL:=hid hbl
      clear ht3 ht4 hr hown hbl
      go_wp2
      refine bodyPost_ret (v := .agg #[.slice ao m c, .int .i64 b]) (by simp [results,Tryz.results94,go_sem,y0,y1];try rfl) rfl ?_
      rw [←HT.out]
      exact ⟨_,rfl,HR.out,HBL.out⟩
   | some i =>
    obtain ⟨ik,inum,inm,ity,iex⟩:=i
    have HT:Hid ((acc ++ [⟨ik,inum,inm,ity,iex⟩] ++ (treeP toks f b).1,(treeP toks f b).2)=treeAll toks):=hid (by have h:=HE.out;simpa [treeP,he,hip] using h)
    have HGE:=hid (itemP_ge HW.out hip)
    clear hip HE
    have HB:=hid he
    clear he
    go_wp2_with fail
    refine (atEnd_any toks _ tb cap a 0 _ HTS.out.ps ha).mono ?_
    rw [HB.out]
    rintro e w1 ⟨rfl,hb⟩
    have HT1:=hid (HTS.out.call (Fr.of_below hb) (HTS.out.ps.below hb))
    clear hb
    go_wp2_with fail
    refine (item_any HW.out _ tb cap a _ ha HT1.out.ps).mono ?_
    rw [HIP.out]
    rintro e w2 ⟨⟨v2,rfl,⟨i0,i1,s2,s3,x4,rfl,hi⟩,hx⟩,hP2,hb2,hF2⟩
    have HT2:=hid (HT1.out.call hF2 hP2)
    clear hP2 hF2
    obtain ⟨f,rfl⟩:∃ g,f=g+1:=⟨f - 1,by have:=HGE.out;omega⟩
    have hxi:=hx _ rfl
    simp only [itV,Value.agg.injEq,Array.mk.injEq,List.cons.injEq,Value.int.injEq,Value.string.injEq,true_and,and_true] at hxi
    obtain ⟨rfl,rfl,rfl,rfl,rfl⟩:=hxi
    clear hx
    rcases hi with rfl | ⟨t4,v4,rfl⟩
    · have HT3:=hid (HT2.out.alloc (.cells #[.int .i64 ik, .int .i64 inum, .string s2, .string s3, .nilIface] 137))
      have t0:=HT3.out.t0
      have z0:(w2.alloc (.cells #[.int .i64 ik, .int .i64 inum, .string s2, .string s3, .nilIface] 137)).cell? ⟨w2.heap.size,0,none⟩=some (.int .i64 ik):=heap_cell (i:=0) (new_heap w2 _)
      have z1:(w2.alloc (.cells #[.int .i64 ik, .int .i64 inum, .string s2, .string s3, .nilIface] 137)).cell? ⟨w2.heap.size,1,none⟩=some (.int .i64 inum):=heap_cell (i:=1) (new_heap w2 _)
      have z2:(w2.alloc (.cells #[.int .i64 ik, .int .i64 inum, .string s2, .string s3, .nilIface] 137)).cell? ⟨w2.heap.size,2,none⟩=some (.string s2):=heap_cell (i:=2) (new_heap w2 _)
      have z3:(w2.alloc (.cells #[.int .i64 ik, .int .i64 inum, .string s2, .string s3, .nilIface] 137)).cell? ⟨w2.heap.size,3,none⟩=some (.string s3):=heap_cell (i:=3) (new_heap w2 _)
      have z4:(w2.alloc (.cells #[.int .i64 ik, .int .i64 inum, .string s2, .string s3, .nilIface] 137)).cell? ⟨w2.heap.size,4,none⟩=some (.nilIface):=heap_cell (i:=4) (new_heap w2 _)
      go_wp2_with (at_builtin;go_must (refine wpList_append_own _ rfl _ _ 85 rfl (w.heap.size+3) 137 i0' (.agg #[.int .i64 0, .int .i64 0, .string ⟨#[]⟩, .string ⟨#[]⟩, .nilIface]) 5 64 Tryz.underlying85 hi' hz0 hz1 hz2 rfl (by decide) _ _ _ rfl (HT3.out.own.alloc _) ⟨_,0,none⟩ 1 1 [.int .i64 ik, .int .i64 inum, .string s2, .string s3, .nilIface] rfl rfl (five_cells _ _ (by simp) _ _ _ _ _ _) ?c2 ?c3 ?c4 ?c5 ?_))
      case c2=>intro u hu;simp at hu;rcases hu with rfl | rfl | rfl | rfl | rfl <;> rfl
      case c3=>have:=HL.out;unfold maxLen;omega
      case c4=>have:=HL.out;omega
      case c5=>have:=heap_lt HT3.out.tr;simp at *;omega
      intro v' w4 hown' hgrow _
      have ht4:=((HT3.out.alloc _).put hown' hgrow)
      have g0:=(grown_tree (HT3.out.alloc _) hgrow).1
      have g1:=(grown_tree (HT3.out.alloc _) hgrow).2
      obtain ⟨ao',m',c',rfl⟩:=ht4.shape
      have HT4:=hid ht4
      clear ht4 hown' hgrow
      go_wp2
      go_roundg (f+1)
      all_goals first
       | omega
       | exact ⟨b,_,acc ++ [⟨ik,inum,s2,s3, .nilIface⟩],f,rfl,hb2,by have:=HGE.out;omega,by have:=HGE.out;simp;omega,by simpa [itCells] using HT4.out,HT.out⟩
    · have HT3:=hid (HT2.out.alloc (.cells #[.int .i64 ik, .int .i64 inum, .string s2, .string s3, .iface t4 v4] 137))
      have t0:=HT3.out.t0
      have z0:(w2.alloc (.cells #[.int .i64 ik, .int .i64 inum, .string s2, .string s3, .iface t4 v4] 137)).cell? ⟨w2.heap.size,0,none⟩=some (.int .i64 ik):=heap_cell (i:=0) (new_heap w2 _)
      have z1:(w2.alloc (.cells #[.int .i64 ik, .int .i64 inum, .string s2, .string s3, .iface t4 v4] 137)).cell? ⟨w2.heap.size,1,none⟩=some (.int .i64 inum):=heap_cell (i:=1) (new_heap w2 _)
      have z2:(w2.alloc (.cells #[.int .i64 ik, .int .i64 inum, .string s2, .string s3, .iface t4 v4] 137)).cell? ⟨w2.heap.size,2,none⟩=some (.string s2):=heap_cell (i:=2) (new_heap w2 _)
      have z3:(w2.alloc (.cells #[.int .i64 ik, .int .i64 inum, .string s2, .string s3, .iface t4 v4] 137)).cell? ⟨w2.heap.size,3,none⟩=some (.string s3):=heap_cell (i:=3) (new_heap w2 _)
      have z4:(w2.alloc (.cells #[.int .i64 ik, .int .i64 inum, .string s2, .string s3, .iface t4 v4] 137)).cell? ⟨w2.heap.size,4,none⟩=some (.iface t4 v4):=heap_cell (i:=4) (new_heap w2 _)
      go_wp2_with (at_builtin;go_must (refine wpList_append_own _ rfl _ _ 85 rfl (w.heap.size+3) 137 i0' (.agg #[.int .i64 0, .int .i64 0, .string ⟨#[]⟩, .string ⟨#[]⟩, .nilIface]) 5 64 Tryz.underlying85 hi' hz0 hz1 hz2 rfl (by decide) _ _ _ rfl (HT3.out.own.alloc _) ⟨_,0,none⟩ 1 1 [.int .i64 ik, .int .i64 inum, .string s2, .string s3, .iface t4 v4] rfl rfl (five_cells _ _ (by simp) _ _ _ _ _ _) ?c2 ?c3 ?c4 ?c5 ?_))
      case c2=>intro u hu;simp at hu;rcases hu with rfl | rfl | rfl | rfl | rfl <;> rfl
      case c3=>have:=HL.out;unfold maxLen;omega
      case c4=>have:=HL.out;omega
      case c5=>have:=heap_lt HT3.out.tr;simp at *;omega
      intro v' w4 hown' hgrow _
      have ht4:=((HT3.out.alloc _).put hown' hgrow)
      have g0:=(grown_tree (HT3.out.alloc _) hgrow).1
      have g1:=(grown_tree (HT3.out.alloc _) hgrow).2
      obtain ⟨ao',m',c',rfl⟩:=ht4.shape
      have HT4:=hid ht4
      clear ht4 hown' hgrow
      go_wp2
      go_roundg (f+1)
      all_goals first
       | omega
       | exact ⟨b,_,acc ++ [⟨ik,inum,s2,s3, .iface t4 v4⟩],f,rfl,hb2,by have:=HGE.out;omega,by have:=HGE.out;simp;omega,by simpa [itCells] using HT4.out,HT.out⟩
def Cls (t:ByteArray):Prop:=∀ c r,t.data.toList=c :: r→(isLetB c.toNat=true→∀ x∈t.data.toList,isLetB x.toNat=true)∧(isDigB c.toNat=true→∀ x∈t.data.toList,isDigB x.toNat=true)
theorem takeWhile_take {p:UInt8→Bool}:∀ (l:List UInt8),∀ x∈l.take (l.takeWhile p).length,p x=true
 | [],x,hx=>by simp at hx
 | y :: r,x,hx=>by
  cases hp:p y with
  | false=>simp [List.takeWhile,hp] at hx
  | true =>
   simp only [List.takeWhile,hp,List.length_cons,List.take_succ_cons] at hx
   rcases List.mem_cons.1 hx with rfl | hx
   · exact hp
   · exact takeWhile_take r x hx
theorem tok_list (s:ByteArray) (a:Nat) (h:a < s.size):(s.extract a (a+tokP s a)).data.toList=((s.extract a s.size).data.toList).take (tokP s a):=by
 have hb:=tokP_bd s a h
 have e:(s.extract a s.size).data.toList=s.data.toList.drop a:=by
  rw [←Lib.toList_data,Lib.extract_toList,List.take_of_length_le (by simp)]
 rw [e,←Lib.toList_data,Lib.extract_toList]
 congr 1
 omega
theorem digit_no_letter {c:Int} (h:isDigB c=true):isLetB c=false:=by
 simp only [isDigB,Bool.and_eq_true,decide_eq_true_eq] at h
 simp only [isLetB,Bool.and_eq_false_iff,decide_eq_false_iff_not]
 omega
theorem cls_tok (s:ByteArray) (a:Nat) (h:a < s.size):Cls (s.extract a (a+tokP s a)):=by
 intro c r hc
 obtain ⟨r',hr',_⟩:=rest_cons s a h
 have hl:=tok_list s a h
 have hb:=tokP_bd s a h
 rw [hr'] at hl
 have hcs:c=s[a]:=by
  rw [hc] at hl
  obtain ⟨n,hn⟩:∃ n,tokP s a=n+1:=⟨tokP s a - 1,by omega⟩
  rw [hn,List.take_succ_cons] at hl
  exact (List.cons.inj hl).1
 subst hcs
 refine ⟨fun hlet x hx => ?_,fun hd x hx => ?_⟩
 · have e:tokP s a=((s[a] :: r').takeWhile fun c=>isLetB c.toNat).length:=by
    unfold tokP;rw [hr'];simp only [tokL,hlet];rfl
   rw [hl,e] at hx
   exact takeWhile_take (p:=fun c=>isLetB c.toNat) _ x hx
 · have e:tokP s a=((s[a] :: r').takeWhile fun c=>isDigB c.toNat).length:=by
    unfold tokP;rw [hr'];simp only [tokL,digit_no_letter hd,hd];rfl
   rw [hl,e] at hx
   exact takeWhile_take (p:=fun c=>isDigB c.toNat) _ x hx
theorem lexP_form (s:ByteArray):∀ (f a line ls:Nat),a≤s.size→s.size - a < f →
 ∃ M e,lexP s f a line ls=M ++ [e]∧e.text=⟨#[]⟩∧(∀ t∈M,∃ x,x < s.size∧t.text=s.extract x (x+tokP s x))∧M.length≤s.size - a:=by
 intro f
 induction f with
 | zero=>intro a line ls h1 h2;omega
 | succ f ih =>
  intro a line ls h1 h2
  by_cases h:a < s.size
  · rw [lexP_step s f a line ls h]
    split
    · obtain ⟨M,e,q1,q2,q3,q4⟩:=ih (a+1) (line+1) (a+1) (by omega) (by omega)
      exact ⟨M,e,q1,q2,q3,by omega⟩
    · split
      · obtain ⟨M,e,q1,q2,q3,q4⟩:=ih (a+1) line ls (by omega) (by omega)
        exact ⟨M,e,q1,q2,q3,by omega⟩
      · split
        · obtain ⟨M,e,q1,q2,q3,q4⟩:=ih (a+1) line ls (by omega) (by omega)
          exact ⟨M,e,q1,q2,q3,by omega⟩
        · split
          · rename_i h35
            have hb:=comP_bd s a h h35
            obtain ⟨M,e,q1,q2,q3,q4⟩:=ih (a+comP s a) line ls (by omega) (by omega)
            exact ⟨M,e,q1,q2,q3,by omega⟩
          · have hb:=tokP_bd s a h
            obtain ⟨M,e,q1,q2,q3,q4⟩:=ih (a+tokP s a) line ls (by omega) (by omega)
            refine ⟨⟨s.extract a (a+tokP s a),line,a - ls+1⟩ :: M,e,by rw [q1];rfl,q2,fun t ht => ?_,by simp;omega⟩
            rcases List.mem_cons.1 ht with rfl | ht
            · exact ⟨a,h,rfl⟩
            · exact q3 t ht
  · rw [lexP_end s f a line ls h]
    exact ⟨[],_,rfl,rfl,by simp,by simp⟩
theorem extract_size_le (s:ByteArray) (x n:Nat):(s.extract x n).size≤s.size:=by
 simp only [ByteArray.size_extract];omega
theorem lexWf (s:ByteArray) (hs:s.size≤400):Wf (lexAll s)∧∀ i,Cls (tx (lexAll s) i):=by
 obtain ⟨M,e,h1,h2,h3,h4⟩:=lexP_form s (s.size+1) 0 1 0 (by omega) (by omega)
 have hlen:(lexAll s).length=M.length+1:=by unfold lexAll;rw [h1];simp
 have hmid:∀ i,i < M.length→∃ x,x < s.size∧tx (lexAll s) i=s.extract x (x+tokP s x):=by
  intro i hi
  have:(lexAll s)[i]? = some M[i]:=by unfold lexAll;rw [h1,List.getElem?_append_left hi,List.getElem?_eq_getElem hi]
  rw [tx,this]
  exact h3 _ (List.getElem_mem hi)
 have hend:∀ i,M.length≤i→tx (lexAll s) i=⟨#[]⟩:=by
  intro i hi
  by_cases e1:i=M.length
  · have:(lexAll s)[i]? = some e:=by unfold lexAll;rw [h1,e1];simp
    rw [tx,this];exact h2
  · rw [tx,List.getElem?_eq_none (by omega)];rfl
 refine ⟨⟨by omega,by omega,fun i hi => ?_,hend _ (by omega),fun i => ?_⟩,fun i => ?_⟩
 · obtain ⟨x,hx,hq⟩:=hmid i (by omega)
   have:=tokP_bd s x hx
   rw [hq];simp only [ByteArray.size_extract];omega
 · by_cases hi:i < M.length
   · obtain ⟨x,hx,hq⟩:=hmid i hi
     rw [hq];exact Nat.le_trans (extract_size_le _ _ _) hs
   · rw [hend i (by omega)];exact Nat.zero_le _
 · by_cases hi:i < M.length
   · obtain ⟨x,hx,hq⟩:=hmid i hi
     rw [hq];exact cls_tok s x hx
   · rw [hend i (by omega)]
     intro c r h;simp at h
end Go.Proofs.YthibodlojlkppaaGreatDoor
namespace Go.Proofs.YthibodlojlkppaaGreatDoor
open Go.RowKit
variable [DecidableEq K] [LawfulBEq Lk]
theorem ENG.lt {st:St V} {L:Lay} {lp:Option K} {bs:Nat} {fm:Value} {w:World} (h:ENG st L lp bs fm w) {b:Nat} (hb:w.heap.size≤b):¬ L.own b:=fun e=>by
 obtain ⟨q,sm,bg,kv,arr,hx⟩:=h
 have:=hx.olt b e
 omega
theorem toks_at {O:Nat→Prop} {w:World} {ao:Option Addr} {c:Nat} {l:List Tok} (h:Row O w 121 (.slice ao l.length c) l.length (tokCells l)) (hp:0 < l.length):∃ g cur,ao=some ⟨g,0,none⟩∧¬ O g∧w.heap[g]? = some (.cells cur 121)∧cur.toList.take (3 * l.length)=tokCells l:=by
 obtain ⟨a,b,e,h1,h2⟩:=h
 injection e with e1 e2 e3
 obtain ⟨g,cur,h3,h4,h5,h6⟩:=h2 hp
 exact ⟨g,cur,e1.trans h3,h4,h5,by rw [←tokCells_length l];exact h6⟩
theorem workTreeC {W0:World} {B bs lb:Nat} {fm:Value} {st:St V} {L:Lay} {w:World} {E:Eng V} (hE:Eng0 W0 E bs fm) (hW:WS W0 B bs lb fm st L w st L [] w) (h00:W0.heap.size≤w.heap.size) {f nm:ByteArray} {nc:Bool} {out:Out (V × List Lk)} {st':St V} (hr:run E nc (getT f fun toks => .ret (.r (treeX toks).1 (treeX toks).2)) [] st=some (out,st')) :
 Calls Tryz.prog 67 #[ptr bs,ptr lb, .agg #[.int .i64 3, .string f, .string nm]] w (WkPost B st L bs lb fm 3 out st' w):=by
 obtain ⟨l,lk',st1,hm,hr⟩:=run_getT hr
 obtain ⟨rfl,rfl⟩:=run_ret hr
 have hb0:=((Below.refl w.heap.size w).alloc (Nat.le_refl _) (.cells #[.int .i64 3, .string f, .string nm] 99)).alloc (by simp) (.cells #[.slice none 0 0, .int .i64 0] 87)
 have hT:=new_heap (w.alloc (.cells #[.int .i64 3, .string f, .string nm] 99)) (.cells #[.slice none 0 0, .int .i64 0] 87)
 have hA:=old_heap (.cells #[.slice none 0 0, .int .i64 0] 87) (new_heap w (.cells #[.int .i64 3, .string f, .string nm] 99))
 rw [show (w.alloc (.cells #[.int .i64 3, .string f, .string nm] 99)).heap.size=w.heap.size+1 from by simp] at hT
 have HTK:=hid (tokensW hE (hW.below hb0) hm)
 obtain ⟨its,hits⟩:∃ its,its=(treeX l).1:=⟨_,rfl⟩
 obtain ⟨fl,hfl⟩:∃ fl,fl=(treeX l).2:=⟨_,rfl⟩
 rw [←hits,←hfl]
 have HIT:=hid (show treeAll l=(its.map itOf,fl) by rw [tree_enc,hits,hfl])
 have HIT2:=hid (show (its,fl)=treeX l by rw [hits,hfl])
 clear hits hfl
 have HM:=hid (And.intro (hW.mine (b:=w.heap.size+1) (Nat.le_succ _)) h00)
 have HT:=hid hT
 have HB0:=hid hb0
 have a1:=heap_cell (i:=1) hA
 clear hE hW hm hr hb0 hT hA h00
 go_enter Tryz.func67,Tryz.ntmps67
 go_wp2_with fail
 refine HTK.out.mono ?_
 rintro e w1 ⟨ao,c,rfl,L',hg,hrow,s,hs,hls⟩
 have hwf:Wf l:=by rw [hls];exact (lexWf s hs).1
 obtain ⟨tb,cur,rfl,hno,hg1,hc⟩:=toks_at hrow hwf.pos
 have ht1:=(hg.n.mine HT.out HM.out.1 (fun cs e=>by injection e with _ e;exact absurd e (by decide))).1
 have HT1:=hid ht1
 have HG:=hid hg
 have HS:=hid (And.intro hs hls)
 have HRD:=readTree_any hwf tb c w1 ⟨cur,hg1,hc⟩
 rw [HIT.out] at HRD
 have HRD:=hid HRD
 clear hg hrow hs hno hg1 hc ht1 HTK hwf hls
 go_wp2_with fail
 refine HRD.out.mono ?_
 rintro e w2 ⟨v,rfl,hown,hb⟩
 simp only [List.length_map] at hown
 obtain ⟨ra,rc,hv⟩:∃ ao c,v = .slice ao its.length c:=by
  obtain ⟨_,⟨h1,h0⟩ | ⟨g,c,_,h1,_⟩⟩:=hown
  · exact ⟨none,0,by rw [h1,h0]⟩
  · exact ⟨_,_,h1⟩
 subst hv
 have HO:=hid hown
 have HB2:=hid hb
 obtain ⟨z,hz⟩:∃ z,faultV fl = .int .i64 z:=by cases fl <;> exact ⟨_,rfl⟩
 have HZ:=hid hz
 rw [hz]
 have hR:=below_heap hb (heap_lt HT1.out) HT1.out
 generalize hrb:w.heap.size+1=rb at hR ⊢
 have HRB:=hid hrb
 have q0:w2.cell? ⟨rb,0,none⟩=some (.slice none 0 0):=heap_cell (i:=0) hR
 have q1:w2.cell? ⟨rb,1,none⟩=some (.int .i64 0):=heap_cell (i:=1) hR
 have f0:w2.frozen? ⟨rb,0,none⟩=false:=heap_frozen hR
 have f1:w2.frozen? ⟨rb,1,none⟩=false:=heap_frozen hR
 have HS2:=hid (heap_setCell_lit (i:=1) (heap_setCell_lit (i:=0) hR (.slice ra its.length rc)) (.int .i64 z))
 have HR:=hid hR
 clear hown hb hz hR hrb
 go_wp2
 have y0:=heap_cell (i:=0) HS2.out
 have y1:=heap_cell (i:=1) HS2.out
 refine bodyPost_ret (v := .agg #[.slice ra its.length rc, .int .i64 z]) (by simp [results,Tryz.results67,go_sem,y0,y1];try rfl) rfl ?_
 have hrb:w.heap.size≤rb:=by have:=HRB.out;omega
 have hR:=HR.out
 have hR2:=heap_setCell_lit (i:=0) hR (.slice ra its.length rc)
 have hs2:=(((HG.out.s.below HB2.out).box hR hrb HM.out.2 0 (.slice ra its.length rc)).box hR2 hrb HM.out.2 1 (.int .i64 z))
 have hrow:=row_of_own HO.out fun g hg=>(show ¬ L'.own g from HG.out.s.e.lt hg)
 have hd:=hs2.done (kind:=3) (v := .r its fl) (vs:=[.slice ra its.length rc,faultV fl]) ⟨⟨rfl,s,HS.out.1,by rw [HIT2.out,HS.out.2]⟩,_,rfl,(hrow.boxR (by decide) hR 0 (.slice ra its.length rc)).boxR (by decide) hR2 1 (.int .i64 z)⟩
 rw [HZ.out] at hd
 exact hd
end Go.Proofs.YthibodlojlkppaaGreatDoor

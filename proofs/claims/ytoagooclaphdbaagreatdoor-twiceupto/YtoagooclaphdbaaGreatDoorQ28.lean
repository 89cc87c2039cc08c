/-
  What a report's work holds while it goes from item to item.
-/
import Derived.Test.YtoagooclaphdbaaGreatDoorQ27
set_option linter.unusedVariables false
set_option linter.unusedSimpArgs false
set_option maxRecDepth 100000
set_option maxHeartbeats 40000000

namespace Go.Proofs.YtoagooclaphdbaaGreatDoor
open Go.RowKit
def finP (l:List Tok):Option Nat→ByteArray→Prog V
 | none,out => .ret (.s out)
 | some b,out=>tellP l b syn_ out fun out' => .ret (.s out')
theorem wReport_fin (f:ByteArray):wReport f=getT f fun toks=>getR f fun its fl=>itemsP f toks its (finP toks fl) its nob:=by
 unfold wReport
 congr 1
 funext toks
 congr 1
 funext its fl
 congr 1
 funext out
 cases fl <;> rfl
section
variable {W0:World} {B bs lb:Nat} {fm:Value} {st0 st st1:St V} {L0 L L1:Lay} {w0 w w1:World} {lk lk1:List Lk} {l:List Tok} {its:List Itx} {ta ao:Option Addr} {tc c:Nat} {z:Int} {kb b7 b8 ob:Nat} {ko:Array Value} {s:ByteArray}
structure RL (W0:World) (B bs lb:Nat) (fm:Value) (st0:St V) (L0:Lay) (w0:World) (l:List Tok) (its:List Itx) (z:Int) (kb:Nat) (ko:Array Value) (ta:Option Addr) (tc:Nat) (ao:Option Addr) (c:Nat) (b7 b8 ob:Nat) (s:ByteArray) (st:St V) (L:Lay) (lk:List Lk) (w:World):Prop where
 ws:WS W0 B bs lb fm st0 L0 w0 st L lk w
 tr:Row L.own w 170 (.slice ta l.length tc) l.length (tokCells l)
 ir:TRow L w ao c its
 k:w.heap[kb]? = some (.cells ko 150)∧Mine L lb kb
 b7:w.heap[b7]? = some (.cells #[.slice ta l.length tc] 125)∧Mine L lb b7
 b8:w.heap[b8]? = some (.cells #[.slice ao its.length c, .int .i64 z] 130)∧Mine L lb b8
 bd:∃ v,MB w0.heap.size ob s v w∧Mine L lb ob∧∀ g,v.ownBlock=some g→Mine L lb g
theorem MB.rowC {N:Nat} {v:Value} (h:MB N ob s v w) {g:Nat} (hg:v.ownBlock=some g):∃ cur,w.heap[g]? = some (.cells cur 5):=own_cells h.row hg
theorem RL.below (h:RL W0 B bs lb fm st0 L0 w0 l its z kb ko ta tc ao c b7 b8 ob s st L lk w) {w':World} (hb:Below w.heap.size w w'):RL W0 B bs lb fm st0 L0 w0 l its z kb ko ta tc ao c b7 b8 ob s st L lk w':=by
 obtain ⟨h1,h2,h3,⟨h4,h5⟩,⟨h6,h7⟩,⟨h8,h9⟩,v,h10,h11⟩:=h
 exact ⟨h1.below hb,Row.below h2 hb,Row.below h3 hb,⟨below_heap hb (heap_lt h4) h4,h5⟩,⟨below_heap hb (heap_lt h6) h6,h7⟩,⟨below_heap hb (heap_lt h8) h8,h9⟩,v,h10.below hb,h11⟩
theorem RL.got (h:RL W0 B bs lb fm st0 L0 w0 l its z kb ko ta tc ao c b7 b8 ob s st L lk w) (hg:Got W0 B bs lb fm st0 L0 w0 st L w st1 L1 lk1 w1):RL W0 B bs lb fm st0 L0 w0 l its z kb ko ta tc ao c b7 b8 ob s st1 L1 lk1 w1:=by
 obtain ⟨h1,h2,h3,⟨h4,h5⟩,⟨h6,h7⟩,⟨h8,h9⟩,v,h10,h11,h12⟩:=h
 obtain ⟨lv,hlb,_⟩:=h1.k.blk
 have key:∀ {b:Nat} {cs:Array Value} {T:TypeId},T≠216→w.heap[b]? = some (.cells cs T)→Mine L lb b→w1.heap[b]? = some (.cells cs T)∧Mine L1 lb b:=fun hT ha hb=>hg.n.mine ha hb (fun cs e=>by injection e with _ e;exact hT e)
 obtain ⟨⟨p,hp,hob⟩,hown,hne,hlo⟩:=id h10
 have hob1:=key (by decide) hob h11
 refine ⟨hg.s,Row.wnext h2 hg.n hlb (by decide) (by decide),Row.wnext h3 hg.n hlb (by decide) (by decide),key (by decide) h4 h5,key (by decide) h6 h7,key (by decide) h8 h9,v,⟨⟨p,hp,hob1.1⟩,own_far hown fun g hg2 => ?_,hne,hlo⟩,hob1.2,fun g hg2 => ?_⟩
 · obtain ⟨cur,hc⟩:=h10.rowC hg2
   rw [hc]
   exact (key (by decide) hc (h12 g hg2)).1
 · obtain ⟨cur,hc⟩:=h10.rowC hg2
   exact (key (by decide) hc (h12 g hg2)).2
theorem RL.wrote (h:RL W0 B bs lb fm st0 L0 w0 l its z kb ko ta tc ao c b7 b8 ob s st L lk w) (h00:W0.heap.size≤w0.heap.size) {t:ByteArray} (hf:∀ v,MB w0.heap.size ob s v w→∃ v',MB w0.heap.size ob t v' w1∧MW2 w0.heap.size ob v v' w w1):RL W0 B bs lb fm st0 L0 w0 l its z kb ko ta tc ao c b7 b8 ob t st L lk w1:=by
 obtain ⟨h1,h2,h3,⟨h4,h5⟩,⟨h6,h7⟩,⟨h8,h9⟩,v,h10,h11,h12⟩:=h
 obtain ⟨v',hm,hw⟩:=hf v h10
 obtain ⟨p,hp,hob⟩:=h10.hd
 have key:∀ (b:Nat) (o:Obj),(∀ cs,o ≠ .cells cs 168)→(∀ cs,o ≠ .cells cs 5)→w.heap[b]? = some o→w1.heap[b]? = some o:=fun b o n1 n2 hb=>by
  refine (hw.far b (heap_lt hb) (fun e => ?_) (fun e => ?_)).trans hb
  · rw [e,hob] at hb;injection hb with hb;exact n1 _ hb.symm
  · obtain ⟨cur,hc⟩:=h10.rowC e
    rw [hc] at hb;injection hb with hb;exact n2 _ hb.symm
 have kc:∀ (b:Nat) (cs:Array Value) (T:TypeId),T≠168→T≠5→w.heap[b]? = some (.cells cs T)→w1.heap[b]? = some (.cells cs T):=fun b cs T n1 n2 hb=>key b _ (fun cs e=>by injection e with _ e;exact n1 e) (fun cs e=>by injection e with _ e;exact n2 e) hb
 have hst:Stays w w1:=⟨fun b cs T hT hb=>kc b cs T (fun e=>by rw [e] at hT;exact absurd hT (by decide)) (fun e=>by rw [e] at hT;exact absurd hT (by decide)) hb,fun b es n hb=>key b _ (fun cs e=>by cases e) (fun cs e=>by cases e) hb⟩
 have h1':=h1.stays h00 hw.low hst
 refine ⟨h1',h2.stays (by decide) hst,Row.stays h3 (by decide) hst,⟨kc _ _ _ (by decide) (by decide) h4,h5⟩,⟨kc _ _ _ (by decide) (by decide) h6,h7⟩,⟨kc _ _ _ (by decide) (by decide) h8,h9⟩,v',hm,h11,fun g hg => ?_⟩
 rcases hw.loc g hg with h | h
 · exact h12 g h
 · exact h1.mine h
theorem RL.start (h1:WS W0 B bs lb fm st0 L0 w0 st L lk w) (h2:Row L.own w 170 (.slice ta l.length tc) l.length (tokCells l)) (h3:TRow L w ao c its) (h4:w.heap[kb]? = some (.cells ko 150)∧Mine L lb kb) (h5:w.heap[b7]? = some (.cells #[.slice ta l.length tc] 125)∧Mine L lb b7) (h6:w.heap[b8]? = some (.cells #[.slice ao its.length c, .int .i64 z] 130)∧Mine L lb b8) :
 RL W0 B bs lb fm st0 L0 w0 l its z kb ko ta tc ao c b7 b8 w.heap.size nob st L lk (w.alloc (.cells #[.pointer none, .slice none 0 0] 168)):=by
 have hb:=belowAl (Below.refl w.heap.size w) (.cells #[.pointer none, .slice none 0 0] 168)
 exact ⟨h1.below hb,Row.below h2 hb,Row.below h3 hb,⟨below_heap hb (heap_lt h4.1) h4.1,h4.2⟩,⟨below_heap hb (heap_lt h5.1) h5.1,h5.2⟩,⟨below_heap hb (heap_lt h6.1) h6.1,h6.2⟩, .slice none 0 0,⟨⟨_, .inl rfl,new_heap _ _⟩,World.ownsRow_nil _ _ _ _,by simp [Value.ownBlock],h1.n.fr.size⟩,h1.mine (Nat.le_refl _),fun g hg=>by simp [Value.ownBlock] at hg⟩
theorem tellT_size {out:ByteArray} {t:Tok} {word:ByteArray} (h1:t.line≤1000) (h2:t.col≤1000) (h3:word.size≤20):(tellT out t word).size≤out.size+2100:=by
 have a1:=decX_size t.line h1
 have a2:=decX_size t.col h2
 unfold tellT
 simp only [ByteArray.size_append,sz1]
 omega
variable {E:Eng V} {out0:Out (V × List Lk)} {stE:St V}
theorem RL.tell (h:RL W0 B bs lb fm st0 L0 w0 l its z kb ko ta tc ao c b7 b8 ob s st L lk w) (h00:W0.heap.size≤w0.heap.size) (hpt:PT W0.heap.size W0) (hsT:∃ s:ByteArray,s.size≤400∧l=lexAll s) {num:Nat} {word:ByteArray} (hws:word.size≤20) (ho:s.size≤1000000) {c':ByteArray→Prog V} (hr:run E true (tellP l num word s c') lk st=some (out0,stE)) :
 Calls Tryz.prog 152 #[.int .i64 num, .string word,ptr ob,ptr b7] w fun e w'=>e = .returned (.tuple #[])∧Hid (∃ s',RL W0 B bs lb fm st0 L0 w0 l its z kb ko ta tc ao c b7 b8 ob s' st L lk w'∧s'.size≤s.size+2100∧run E true (c' s') lk st=some (out0,stE)):=by
 unfold tellP at hr
 cases hw:(word.toList == []) with
 | true =>
  rw [if_pos (show eqB word nob=true from (eqB_lit word []).trans hw)] at hr
  refine (tell0 hw).mono ?_
  rintro e w' ⟨rfl,rfl⟩
  exact ⟨rfl,hid ⟨s,h,by omega,hr⟩⟩
 | false =>
  rw [if_neg (by rw [show eqB word nob=false from (eqB_lit word []).trans hw];exact Bool.noConfusion)] at hr
  cases ht:l[num]? with
  | none=>rw [ht] at hr;simp [run] at hr
  | some t =>
   rw [ht] at hr
   simp only at hr
   have hlt:=(List.getElem?_eq_some_iff.1 ht).1
   obtain ⟨tb,cur,rfl,_,hg,hc⟩:=toks_at h.tr (by omega)
   obtain ⟨x,hx,rfl⟩:=hsT
   have hb:=tok_szs hx ht
   obtain ⟨v,hM,_⟩:=id h.bd
   refine (tell1 h.b7.1 hg hc ht hb.2.1 hb.2.2 hw hws ho hM (fun w' h'=>hpt w' (below_seq h.ws.m.low h'))).mono ?_
   rintro e w' ⟨rfl,hf⟩
   obtain ⟨v',hm',hw'⟩:=hf.out
   refine ⟨rfl,hid ⟨_,h.wrote h00 fun v2 hM2 => ?_,tellT_size hb.2.1 hb.2.2 hws,hr⟩⟩
   have e:v2=v:=by
    obtain ⟨p,_,h1⟩:=hM.hd
    obtain ⟨p2,_,h2⟩:=hM2.hd
    rw [h1] at h2
    injection h2 with h2;injection h2 with h2;injection h2 with h2;injection h2 with _ h2;injection h2 with h2;exact h2.symm
   rw [e]
   exact ⟨v',hm',hw'⟩
theorem itemStep (hE:Eng0 W0 E bs fm) (h:RL W0 B bs lb fm st0 L0 w0 l its z kb ko ta tc ao c b7 b8 ob s st L lk w) (h00:W0.heap.size≤w0.heap.size) (hpt:PT W0.heap.size W0) (hsT:∃ s:ByteArray,s.size≤400∧l=lexAll s) (hn:its.length≤401) (ho:s.size≤1000000) {f:ByteArray} {i:Itx} {x:Value} (hx:x = .nilIface∨∃ T v,x = .iface T v) {c':ByteArray→Prog V} (hr:run E true (wrongP f its i fun word=>tellP l i.num word s c') lk st=some (out0,stE)) {ib:Nat} {io:Array Value} (hib:w.heap[ib]? = some (.cells io 186)) (hmi:Mine L lb ib) :
 ∀ W,Drawn w W→Calls Tryz.prog 153 #[ptr bs,ptr lb, .string f, .agg #[.slice ao its.length c, .int .i64 z], .agg #[.int .i64 i.kind, .int .i64 i.num, .string i.name, .string i.typ,x]] W fun e w1 => ∃ t,e = .returned (.string t)∧w1.heap[ib]? = some (.cells io 186)∧Hid (∀ W2,Drawn w1 W2→Calls Tryz.prog 152 #[.int .i64 i.num, .string t,ptr ob,ptr b7] W2 fun e w2=>e = .returned (.tuple #[])∧Hid (∃ s' st' L' lk',RL W0 B bs lb fm st0 L0 w0 l its z kb ko ta tc ao c b7 b8 ob s' st' L' lk' w2∧s'.size≤s.size+2100∧run E true (c' s') lk' st'=some (out0,stE))):=by
 intro W hW
 have hRW:=h.below hW.below
 refine (wrongC hE hRW.ws hRW.ir hn hx hr).mono ?_
 rintro e w1 ⟨t,rfl,hts,hf⟩
 obtain ⟨L1,lk1,st1,hr1,hg⟩:=hf.out
 have hk:=(hg.n.mine (by rw [hW.h];exact hib) hmi (fun cs e=>by injection e with _ e;exact absurd e (by decide))).1
 refine ⟨t,rfl,hk,hid fun W2 hW2 => ?_⟩
 refine (((hRW.got hg).below hW2.below).tell h00 hpt hsT hts ho hr1).mono ?_
 rintro e w2 ⟨rfl,hf2⟩
 obtain ⟨s',h1,h2,h3⟩:=hf2.out
 exact ⟨rfl,hid ⟨s',st1,L1,lk1,h1,h2,h3⟩⟩
theorem reportEnd (h:RL W0 B bs lb fm st0 L0 w0 l its z kb ko ta tc ao c b7 b8 ob s st L lk w) (h00:W0.heap.size≤w0.heap.size):Calls Tryz.prog 103 #[ptr ob] w fun e w'=>e = .returned (.string s)∧WS W0 B bs lb fm st0 L0 w0 st L lk w':=by
 obtain ⟨v,hM,_⟩:=id h.bd
 obtain ⟨⟨p,hp,hob⟩,hown,hne,hlo⟩:=id hM
 have hI:Lib.IsBuilderF 168 5 w0.heap.size ob (Lib.byteCells s.data.toList) w:=by
  have hl:(Lib.byteCells s.data.toList).length=s.size:=by simp [Lib.byteCells]
  have hA:Lib.BuilderAt 168 5 w0.heap.size ob p (Lib.byteCells s.data.toList) w:=⟨hlo,v,hob,by rw [hl];exact hown,hne⟩
  rcases hp with rfl | rfl
  · exact .inl (Lib.BuilderAtF.of hA)
  · exact .inr (Lib.BuilderAtF.of hA)
 refine (Tryz.Builder_String_any_k w0.heap.size ob s.data.toList w hI h.ws.n.fr.size).mono ?_
 rintro e w' ⟨rfl,_,hb,hk⟩
 refine ⟨by simp,h.ws.stays h00 hb ?_⟩
 have key:∀ (b:Nat) (o:Obj),(∀ cs,o ≠ .cells cs 168)→(∀ cs fr,o ≠ .cells cs 5 fr)→w.heap[b]? = some o→w'.heap[b]? = some o:=fun b o n1 n2 hbb=>hk b o hbb (fun e=>by
  injection e with e
  rw [e,hob] at hbb;injection hbb with hbb;exact n1 _ hbb.symm) n2
 exact ⟨fun b cs T hT hb=>key b _ (fun cs e=>by injection e with _ e;rw [e] at hT;exact absurd hT (by decide)) (fun cs fr e=>by injection e with _ e;rw [e] at hT;exact absurd hT (by decide)) hb,fun b es n hb=>key b _ (fun cs e=>by cases e) (fun cs fr e=>by cases e) hb⟩
end
end Go.Proofs.YtoagooclaphdbaaGreatDoor

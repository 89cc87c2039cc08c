/-
  Set, ahead of all questions: what a change leaves. Set, ahead of all questions: the files' map.
-/
import Derived.Test.YthibodlojlkppaaGreatDoorB20
import Derived.Test.YthibodlojlkppaaGreatDoorB25
import Derived.Test.YthibodlojlkppaaGreatDoorB35
set_option linter.unusedVariables false
set_option linter.unusedSectionVars false
set_option linter.unusedSimpArgs false
set_option maxRecDepth 100000
set_option maxHeartbeats 40000000

namespace Go.Proofs.YthibodlojlkppaaGreatDoor
open Go.RowKit
variable [DecidableEq K] [LawfulBEq Lk]
def St.change (st:St V) (f:ByteArray):St V:={ st with rev:=st.rev+1,src:=fun g=>if g=f then some (st.rev+1) else (st.source f).src g }
def St.setF (st:St V) (f t:ByteArray):St V:={ st.change f with files:=fun g=>if g=f then some t else st.files g }
theorem ENG.rev {st:St V} {L:Lay} {bs:Nat} {fm:Value} {w:World} (h:ENG st L none bs fm w) (n:Nat):ENG { st with rev:=n } L none bs fm (w.setCell ⟨bs,1,none⟩ (.int .i64 n))∧Next st { st with rev:=n } L L w (w.setCell ⟨bs,1,none⟩ (.int .i64 n)):=by
 obtain ⟨q,sm,bg,kv,arr,h⟩:=h
 have h1:ENGp { st with rev:=n } L none bs fm q sm bg kv arr (w.setCell ⟨bs,1,none⟩ (.int .i64 n)):=by
  refine h.toENGp.sess (st':={ st with rev:=n }) (fun b hb=>heap_setCell_ne hb _) (by simp) (heap_setCell_lit h.s _) rfl rfl rfl (h.bg.keep fun b cs hb => ?_)
  rw [heap_setCell_ne (fun e => ?_)]
  · exact hb
  · rw [e,h.s] at hb;injection hb with hb;injection hb with _ hb;exact absurd hb (by decide)
 exact ⟨⟨q,sm,bg,kv,arr,h1,h.heap⟩,⟨fun _ h=>⟨h,rfl⟩,fun _ h=>⟨h,rfl⟩,fun _ h => .inl h,(FR.refl _ _).setCell _ (.inl h.bo) _⟩⟩
theorem ENG.chg {st:St V} {L:Lay} {bs:Nat} {fm:Value} {w:World} (h:ENG st L none bs fm w) {f:ByteArray} {c:Nat} (hf:st.src f=some c) (n:Nat):ENG { st with src:=fun g=>if g=f then some n else st.src g } L none bs fm (w.setCell ⟨L.sb f,0,none⟩ (.int .i64 n))∧Next st { st with src:=fun g=>if g=f then some n else st.src g } L L w (w.setCell ⟨L.sb f,0,none⟩ (.int .i64 n)):=by
 obtain ⟨q,sm,bg,kv,arr,h⟩:=h
 obtain ⟨ho,hb0⟩:=h.srb f c hf
 have hcs:∀ (b:Nat) (cs:Array Value) (T:TypeId),T≠162→w.heap[b]? = some (.cells cs T)→(w.setCell ⟨L.sb f,0,none⟩ (.int .i64 n)).heap[b]? = some (.cells cs T):=fun b cs T hT hb=>(heap_setCell_ne (fun e=>by
  rw [e,hb0] at hb;injection hb with hb;injection hb with _ hb;exact hT hb.symm) _).trans hb
 have hmp:∀ (b:Nat) (es:Array MapEntry) (k:Nat),w.heap[b]? = some (.map es k)→(w.setCell ⟨L.sb f,0,none⟩ (.int .i64 n)).heap[b]? = some (.map es k):=fun b es k hb=>(heap_setCell_ne (fun e=>by
  rw [e,hb0] at hb;injection hb with hb;cases hb) _).trans hb
 have hfr:FR L.own w (w.setCell ⟨L.sb f,0,none⟩ (.int .i64 n)):=(FR.refl _ _).setCell _ (.inl ho) _
 have hsn:∀ g,(if g=f then some n else st.src g)≠none↔st.src g≠none:=fun g=>by
  by_cases hg:g=f
  · subst hg;simp [hf]
  · simp [hg]
 have hT:=fun k=>TB_ne (k:=k)
 refine ⟨⟨q,sm,bg,kv,arr,⟨⟨hcs _ _ _ (by decide) h.s,h.bo,fun b hb=>by simpa using h.olt b hb,?_,fun g d hg => ?_,fun g1 g2 h1 h2=>h.sri g1 g2 ((hsn g1).1 h1) ((hsn g2).1 h2),h.qm,h.sm.keep hmp,h.bg.keep fun b cs=>hcs b cs _ (by decide),h.kv.keep fun b cs=>hcs b cs _ (by decide),h.perm,h.nd,h.kl,h.ex,fun j m hj => ?_⟩,h.heap⟩⟩,⟨fun _ h=>⟨h,rfl⟩,fun g hg=>⟨(hsn g).2 hg,rfl⟩,fun _ h => .inl h,hfr⟩⟩
 · rcases h.sr.keep hmp with ⟨h1,h2⟩ | ⟨b,es,k,h1,h2,h3,fs,h4,h5,h6⟩
   · exact absurd (h2 f) (by rw [hf];simp)
   · exact .inr ⟨b,es,k,h1,h2,h3,fs,h4,h5,fun g=>(h6 g).trans (hsn g).symm⟩
 · by_cases hgf:g=f
   · subst hgf
     simp at hg
     subst hg
     refine ⟨ho,?_⟩
     exact heap_setCell_lit (i:=0) hb0 _
   · simp [hgf] at hg
     obtain ⟨a,b⟩:=h.srb g d hg
     refine ⟨a,(heap_setCell_ne (fun e=>hgf ?_) _).trans b⟩
     exact h.sri g f (by rw [hg];simp) (by rw [hf];simp) e
 · have hc:=h.cell j m hj
   obtain ⟨x,vs,a,b⟩:=hc.ex
   exact ⟨⟨x,vs,hcs _ _ _ (hT j).2.1 a,b.next hfr fun i h => .inl h⟩,hc.own⟩
theorem ENG.cell1 {st:St V} {L:Lay} {bs:Nat} {fm:Value} {w:World} (h:ENG st L none bs fm w):w.cell? ⟨bs,1,none⟩=some (.int .i64 st.rev)∧w.frozen? ⟨bs,1,none⟩=false:=by
 obtain ⟨q,sm,bg,kv,arr,hx⟩:=h
 exact ⟨heap_cell (i:=1) hx.s,heap_frozen hx.s⟩
theorem ENG.src0 {st:St V} {L:Lay} {bs:Nat} {fm:Value} {w:World} (h:ENG st L none bs fm w) {f:ByteArray} {c:Nat} (hf:st.src f=some c):w.cell? ⟨L.sb f,0,none⟩=some (.int .i64 c)∧w.frozen? ⟨L.sb f,0,none⟩=false:=by
 obtain ⟨q,sm,bg,kv,arr,hx⟩:=h
 have:=(hx.srb f c hf).2
 exact ⟨heap_cell (i:=0) this,heap_frozen this⟩
theorem rev_source (st:St V) (f:ByteArray):(st.source f).rev=st.rev:=by unfold St.source;split <;> rfl
theorem change_eq (st:St V) (f:ByteArray):({ ({ st with rev:=st.rev+1 }:St V).source f with src:=fun g=>if g=f then some (st.rev+1) else (({ st with rev:=st.rev+1 }:St V).source f).src g }:St V)=st.change f:=by
 have e:(({ st with rev:=st.rev+1 }:St V).source f) = { st.source f with rev:=st.rev+1 }:=by
  unfold St.source
  cases st.src f <;> simp
 rw [e]
 unfold St.change St.source
 cases st.src f <;> simp
theorem changeC {st:St V} {L:Lay} {bs:Nat} {fm:Value} {w:World} (h:ENG st L none bs fm w) (f:ByteArray) (hfl:f.size≤BIG) (hr:st.rev < 1000) :
 Calls Tryz.prog 53 #[.pointer (some ⟨bs,1,none⟩), .string f] w fun e w'=>e = .returned (.tuple #[])∧∃ L',ENG (st.change f) L' none bs fm w'∧Next st (st.change f) L L' w w':=by
 obtain ⟨c1,f1⟩:=h.cell1
 have HR:=hid (h.rev (st.rev+1))
 have HCH:=hid (change_eq st f)
 have HFL:=hid hfl
 have e1:((st.rev+1:Nat):Int)=(st.rev:Int)+1:=by omega
 have hr1:(st.rev:Int) < 1000:=by omega
 have hr0:(0:Int)≤(st.rev:Int):=by omega
 rw [e1] at HR
 have HE1:=hid e1
 obtain ⟨S,hS⟩:∃ S:St V,S = { st with rev:=st.rev+1 }:=⟨_,rfl⟩
 rw [←hS] at HR HCH
 have HSR:Hid ((S.rev:Int)=(st.rev:Int)+1):=hid (by rw [hS];exact e1)
 have HN0:Hid (S.rev=st.rev+1):=hid (by rw [hS])
 clear h hfl hr e1 hS
 obtain ⟨z,hz⟩:∃ z:Int,z=(st.rev:Int):=⟨_,rfl⟩
 rw [←hz] at c1 hr1 hr0 HSR HR
 have HZ:=hid hz
 clear hz
 go_enter Tryz.func53,Tryz.ntmps53
 go_wp2
 generalize w.setCell ⟨bs,1,none⟩ (.int .i64 (z+1))=W at HR ⊢
 have d1:W.cell? ⟨bs,1,none⟩=some (.int .i64 (z+1)):=by rw [←HSR.out];exact HR.out.1.cell1.1
 clear c1 f1
 go_region_with (go_at_call 84;go_must (refine (sourceG (ENG.below HR.out.1 (by first | exact Below.refl _ _ | exact below_drewN _ _)) f HFL.out).mono ?_;rintro e w' ⟨L',rfl,hE,hN⟩;have HE:=hid (And.intro hE hN);have d1':w'.cell? ⟨bs,1,none⟩=some (.int .i64 (z+1)):=(by rw [←HSR.out,←rev_source S f];exact hE.cell1.1);obtain ⟨cc,hcc⟩:=Option.ne_none_iff_exists'.1 (source_ne S f);have s0:=(hE.src0 hcc).1;have k0:=(hE.src0 hcc).2;have HCC:=hid hcc;clear hE hN hcc))
 all_goals go_wp2
 all_goals go_end0
 all_goals
  have hz:(((st.rev+1:Nat):Int))=z+1:=by rw [HZ.out];exact HE1.out
  have hc:=HE.out.1.chg HCC.out (st.rev+1)
  rw [hz,HCH.out] at hc
  refine ⟨rfl,L',?_,?_⟩
  · first
     | exact hc.1
     | exact hc.1.below (below_drewN _ _)
  · first
     | exact (HR.out.2.trans HE.out.2).trans hc.2
     | exact ((HR.out.2.trans HE.out.2).trans hc.2).below (below_drewN _ _)
     | exact ((HR.out.2.below (below_drewN _ _)).trans HE.out.2).trans hc.2
structure FSt (W0:World) (fs:List (ByteArray × ByteArray)) (F:ByteArray→Option ByteArray) (L:Lay) (fm:Value) (w:World):Prop where
 mp:(fm = .map none∧fs = [])∨∃ b es n,fm = .map (some b)∧W0.heap.size≤b∧¬ L.own b∧w.heap[b]? = some (.map es n)∧es.toList.map (fun e=>(e.key,e.val))=fs.map (fun p=>(.string p.1, .agg #[.string p.2]))
 nd:(fs.map (·.1)).Nodup
 fl:∀ f x,(f,x)∈fs↔F f=some x
 sz:∀ f x,F f=some x→x.size≤400
 low:Below W0.heap.size W0 w
 ow:∀ b,L.own b→W0.heap.size≤b
section
variable {W0:World} {fs:List (ByteArray × ByteArray)} {F:ByteArray→Option ByteArray} {L:Lay} {fm:Value} {w:World} {bs:Nat} {st:St V}
theorem FSt.files (h:FSt W0 fs F L fm w):FM W0 F L fm w:=by
 refine ⟨h.sz,?_,h.low,h.ow⟩
 rcases h.mp with ⟨h1,h2⟩ | ⟨b,es,n,h1,h2,h3,h4,h5⟩
 · refine .inl ⟨h1,fun f => ?_⟩
   cases hf:F f with
   | none=>rfl
   | some x=>have:=(h.fl f x).2 hf;rw [h2] at this;simp at this
 · exact .inr ⟨b,es,n,h1,h3,h4,fs,h5,h.nd,h.fl⟩
theorem FSt.below (h:FSt W0 fs F L fm w) {w':World} (hb:Below w.heap.size w w'):FSt W0 fs F L fm w':=by
 refine ⟨h.mp.imp id ?_,h.nd,h.fl,h.sz,below_seq h.low hb,h.ow⟩
 rintro ⟨b,es,n,h1,h2,h3,h4,h5⟩
 exact ⟨b,es,n,h1,h2,h3,below_heap hb (heap_lt h4) h4,h5⟩
theorem FSt.next (h:FSt W0 fs F L fm w) {st st':St V} {L':Lay} {w':World} (hN:Next st st' L L' w w'):FSt W0 fs F L' fm w':=by
 have hm:=h.files.next hN
 refine ⟨h.mp.imp id ?_,h.nd,h.fl,h.sz,hm.low,hm.ow⟩
 rintro ⟨b,es,n,h1,h2,h3,h4,h5⟩
 exact ⟨b,es,n,h1,h2,(hN.blk h4 h3).2,(hN.blk h4 h3).1,h5⟩
theorem ENG.filesTo (h:ENG st L none bs fm w) (F':ByteArray→Option ByteArray):ENG { st with files:=F' } L none bs fm w:=by
 obtain ⟨q,sm,bg,kv,arr,h⟩:=h
 exact ⟨q,sm,bg,kv,arr,⟨⟨h.s,h.bo,h.olt,h.sr,h.srb,h.sri,h.qm,h.sm,h.bg,h.kv,h.perm,h.nd,h.kl,h.ex,h.cell⟩,h.heap⟩⟩
theorem eng_map (h:ENG st L none bs (.map none) w) (hF:FSt W0 [] F L (.map none) w):ENG st L none bs (.map (some w.heap.size)) ((w.setCell ⟨bs,0,none⟩ (.map (some w.heap.size))).alloc (.map #[] 0))∧FSt W0 [] F L (.map (some w.heap.size)) ((w.setCell ⟨bs,0,none⟩ (.map (some w.heap.size))).alloc (.map #[] 0)):=by
 obtain ⟨q,sm,bg,kv,arr,h⟩:=h
 have hp:ENGp st L none bs (.map (some w.heap.size)) q sm bg kv arr (w.setCell ⟨bs,0,none⟩ (.map (some w.heap.size))):=by
  refine h.toENGp.sess (st':=st) (fun b hb=>heap_setCell_ne hb _) (by simp) (heap_setCell_lit h.s _) rfl rfl rfl (h.bg.keep fun b cs hb => ?_)
  rw [heap_setCell_ne (fun e => ?_)]
  · exact hb
  · rw [e,h.s] at hb;injection hb with hb;injection hb with _ hb;exact absurd hb (by decide)
 have hz0:(w.setCell ⟨bs,0,none⟩ (.map (some w.heap.size))).heap.size=w.heap.size:=by simp
 have hA:=MapKept.heap_alloc (w.setCell ⟨bs,0,none⟩ (.map (some w.heap.size))) (.map #[] 0)
 rw [hz0] at hA
 have hbl:=below_newK (w.setCell ⟨bs,0,none⟩ (.map (some w.heap.size))) (.map #[] 0)
 have hsz:=hF.low.size
 have hfr:FR L.own w ((w.setCell ⟨bs,0,none⟩ (.map (some w.heap.size))).alloc (.map #[] 0)):=((FR.refl L.own w).setCell ⟨bs,0,none⟩ (.inl h.bo) _).alloc _
 refine ⟨⟨q,sm,bg,kv,arr,hp.below hbl,h.heap⟩, .inr ⟨w.heap.size,#[],0,rfl,hsz,fun e=>by have:=h.olt _ e;omega,hA.1,rfl⟩,by simp,hF.fl,hF.sz,⟨hfr.os.trans hF.low.os,hfr.tape.trans hF.low.tape,hfr.output.trans hF.low.output,Nat.le_trans hsz hfr.size,fun k hk => ?_⟩,hF.ow⟩
 exact (hfr.block k (by omega) fun e=>by have:=hF.ow k e;omega).trans (hF.low.block k hk)
theorem eng_put {b n:Nat} {es:Array MapEntry} (h:ENG st L none bs (.map (some b)) w) (hF:FSt W0 fs F L (.map (some b)) w) (hb:w.heap[b]? = some (.map es n)) {f t:ByteArray} (hnew:F f=none) (ht:t.size≤400) :
 ENG st L none bs (.map (some b)) (Ses.setO w b (.map (es.push { key := .string f,val := .agg #[.string t],born:=n }) (n+1)))∧FSt W0 (fs ++ [(f,t)]) (fun g=>if g=f then some t else F g) L (.map (some b)) (Ses.setO w b (.map (es.push { key := .string f,val := .agg #[.string t],born:=n }) (n+1))):=by
 obtain ⟨b',es',n',h1,h2,h3,h4,h5⟩:∃ b' es n,Value.map (some b) = .map (some b')∧W0.heap.size≤b'∧¬ L.own b'∧w.heap[b']? = some (.map es n)∧es.toList.map (fun e=>(e.key,e.val))=fs.map (fun p=>(.string p.1, .agg #[.string p.2])):=by
  rcases hF.mp with ⟨h1,_⟩ | h
  · cases h1
  · exact h
 injection h1 with h1
 injection h1 with h1
 subst h1
 have hnk:f ∉ fs.map (·.1):=fun e=>by
  obtain ⟨⟨a,x⟩,e1,rfl⟩:=List.mem_map.1 e
  have:=(hF.fl a x).1 e1
  simp only at hnew
  rw [hnew] at this;cases this
 rw [hb] at h4
 injection h4 with h4
 injection h4 with h4 _
 subst h4
 obtain ⟨q,sm,bg,kv,arr,h⟩:=h
 obtain ⟨o,ho⟩:∃ o,o=Obj.map (es.push { key := .string f,val := .agg #[.string t],born:=n }) (n+1):=⟨_,rfl⟩
 rw [←ho]
 have hne:∀ k,k≠b→(Ses.setO w b o).heap[k]? = w.heap[k]?:=fun k hk=>Ses.setO_ne w b k o hk
 have hcs:∀ (k:Nat) (cs:Array Value) (T:TypeId),w.heap[k]? = some (.cells cs T)→(Ses.setO w b o).heap[k]? = some (.cells cs T):=fun k cs T hk=>(hne k fun e=>by rw [e,hb] at hk;injection hk with hk;cases hk).trans hk
 have hz:(Ses.setO w b o).heap.size=w.heap.size:=by simp [Ses.setO]
 have hown:∀ k,L.own k→k≠b:=fun k hk e=>h3 (e ▸ hk)
 refine ⟨⟨q,sm,bg,kv,arr,⟨⟨hcs _ _ _ h.s,h.bo,fun k hk=>by rw [hz];exact h.olt k hk,?_,fun g c hg=>⟨(h.srb g c hg).1,hcs _ _ _ (h.srb g c hg).2⟩,h.sri,h.qm,?_,h.bg.keep fun k cs=>hcs k cs _,h.kv.keep fun k cs=>hcs k cs _,h.perm,h.nd,h.kl,h.ex,fun j m hj => ?_⟩,h.heap⟩⟩, .inr ⟨b,_,_,rfl,h2,h3,by rw [Ses.setO_eq o hb,ho],?_⟩,?_,fun g x => ?_,fun g x hg => ?_,?_,hF.ow⟩
 · rcases h.sr with h1 | ⟨k,es',n',e1,e2,e3,e4⟩
   · exact .inl h1
   · exact .inr ⟨k,es',n',e1,e2,(hne k (hown k e2)).trans e3,e4⟩
 · rcases h.sm with h1 | ⟨k,es',n',e1,e2,e3,e4⟩
   · exact .inl h1
   · exact .inr ⟨k,es',n',e1,e2,(hne k (hown k e2)).trans e3,e4⟩
 · have hc:=h.cell j m hj
   obtain ⟨x,vs,a,d⟩:=hc.ex
   exact ⟨⟨x,vs,hcs _ _ _ a,d.keepT fun k cs T _ _ hk=>hcs k cs T hk⟩,hc.own⟩
 · simp [h5]
 · rw [List.map_append,List.nodup_append]
   exact ⟨hF.nd,by simp,fun x hx y hy=>by simp at hy;subst hy;intro e;exact hnk (e ▸ hx)⟩
 · rw [List.mem_append,hF.fl]
   by_cases hg:g=f
   · subst hg
     simp only [if_true,hnew,List.mem_singleton,Prod.mk.injEq,true_and]
     constructor
     · rintro (h1 | h1)
       · cases h1
       · rw [h1]
     · intro h1;injection h1 with h1;exact .inr h1.symm
   · simp [hg]
 · by_cases hgf:g=f
   · subst hgf;simp at hg;subst hg;exact ht
   · simp [hgf] at hg;exact hF.sz g x hg
 · exact ⟨hF.low.os,hF.low.tape,hF.low.output,by rw [hz];exact hF.low.size,fun k hk=>(hne k (by omega)).trans (hF.low.block k hk)⟩
theorem store_file {b n:Nat} {es:Array MapEntry} {W:World} (f t:ByteArray) (h:W.heap[b]? = some (.map es n)) (he:es.toList.map (fun e=>(e.key,e.val))=fs.map (fun p=>(.string p.1, .agg #[.string p.2]))) (hk:f ∉ fs.map (·.1)) :
 (Instr.mapUpdate 56 (.map (some b)) (.string f) (.agg #[.string t])).run Tryz.prog W = .ok () (Ses.setO W b (.map (es.push { key := .string f,val := .agg #[.string t],born:=n }) (n+1))):=by
 have he':es.toList.map (fun e=>(e.key,e.val))=(fs.map fun p=>(p.1,Value.agg #[.string p.2])).map (fun p=>(.string p.1,p.2)):=by rw [he];simp
 have hf:=findS_no f es.toList _ 0 he' (by simpa [Function.comp_def] using hk)
 simp [Instr.mapUpdate,run_underlying Tryz.underlying56,MapKept.run_getObj_map h,MapKept.run_checkKey Tryz.underlying9 (isKS f),MapKept.run_findKey Tryz.underlying9 hf,MapKept.run_setObj_map _ h,Result.andThen,Ses.setO]
end
end Go.Proofs.YthibodlojlkppaaGreatDoor

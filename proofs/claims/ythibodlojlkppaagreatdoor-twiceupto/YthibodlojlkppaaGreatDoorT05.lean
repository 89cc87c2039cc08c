/-
  Set, ahead of all questions: the walks. A new session; a question and what it worked out. begun: a session with files; a known sum is worked out. begun: the walk. Twice: the walk.
-/
import Derived.Test.YthibodlojlkppaaGreatDoorB11
import Derived.Test.YthibodlojlkppaaGreatDoorB36
import Derived.Test.YthibodlojlkppaaGreatDoorB37
import Derived.Test.YthibodlojlkppaaGreatDoorT03
import Derived.Test.YthibodlojlkppaaGreatDoorT04
set_option linter.unusedVariables false
set_option linter.unusedSectionVars false
set_option linter.unusedSimpArgs false
set_option maxRecDepth 100000
set_option maxHeartbeats 40000000

namespace Go.Proofs.YthibodlojlkppaaGreatDoor
open Go.RowKit
variable [DecidableEq K] [LawfulBEq Lk]
section
variable {W0:World} {fs:List (ByteArray × ByteArray)} {L:Lay} {fm:Value} {w:World} {bs:Nat} {st:St V}
theorem fullC (h:ENG st L none bs fm w) (hF:FSt W0 fs st.files L fm w) (hlen:fs.length≤5) :
 Calls Tryz.prog 31 #[ptr bs] w fun e w'=>e = .returned (.bool false)∧w'=w:=by
 have c0:w.cell? ⟨bs,0,none⟩=some fm:=by
  obtain ⟨q,sm,bg,kv,arr,hx⟩:=h
  exact heap_cell (i:=0) hx.s
 rcases hF.mp with ⟨rfl,_⟩ | ⟨b,es,n,rfl,_,_,h4,h5⟩
 · have hl:=Maps.len_nil (P:=Tryz.prog) (w:=w) Tryz.underlying56 3
   clear h hF
   go_enter Tryz.func31,Tryz.ntmps31
   go_wp2
   go_ret
   exact ⟨rfl,rfl⟩
 · have hl:∀ ty,(Builtin.len_ #[56] ty #[.map (some b)]).run Tryz.prog w = .ok (.int .i64 es.size) w:=fun ty=>by
    simp [Builtin.len_,run_underlying Tryz.underlying56,MapKept.run_getObj_map h4,goInt,Result.andThen]
   have hsz:es.size=fs.length:=by
    have:=congrArg List.length h5
    simpa using this
   have hlt:¬ ((6:Int)≤(fs.length:Int)):=by omega
   rw [hsz] at hl
   clear h hF h4 h5 hsz
   go_enter Tryz.func31,Tryz.ntmps31
   go_wp2
   go_ret
   exact ⟨rfl,rfl⟩
structure Put (W0:World) (fs:List (ByteArray × ByteArray)) (st:St V) (L:Lay) (bs b:Nat) (w:World):Prop where
 e:ENG st L none bs (.map (some b)) w
 f:FSt W0 fs st.files L (.map (some b)) w
theorem Put.below {b:Nat} (h:Put W0 fs st L bs b w) {w':World} (hb:Below w.heap.size w w'):Put W0 fs st L bs b w':=⟨h.e.below hb,h.f.below hb⟩
theorem Put.step {b:Nat} {w':World} (h:Hid (Put W0 fs st L bs b w)) (hb:Below w.heap.size w w'):Hid (Put W0 fs st L bs b w'):=h.out.below hb
theorem Put.dr {b:Nat} (h:Hid (Put W0 fs st L bs b w)):Hid (Put W0 fs st L bs b w.drew):=h.out.below (below_drewN _ _)
theorem Put.c0 {b:Nat} (h:Put W0 fs st L bs b w):w.cell? ⟨bs,0,none⟩=some (.map (some b)):=by
 obtain ⟨q,sm,bg,kv,arr,hx⟩:=h.e
 exact heap_cell (i:=0) hx.s
theorem Put.put {b:Nat} {w':World} (h:Put W0 fs st L bs b w') {f t:ByteArray} (hnew:st.files f=none) (ht:t.size≤400) :
 ∃ o,(Instr.mapUpdate 56 (.map (some b)) (.string f) (.agg #[.string t])).run Tryz.prog w' = .ok () (Ses.setO w' b o) ∧
  Put W0 (fs ++ [(f,t)]) ({ st with files:=fun g=>if g=f then some t else st.files g }:St V) L bs b (Ses.setO w' b o):=by
 obtain ⟨b',es,n,h1,h2,h3,h4,h5⟩:∃ b' es n,Value.map (some b) = .map (some b')∧W0.heap.size≤b'∧¬ L.own b'∧w'.heap[b']? = some (.map es n)∧es.toList.map (fun e=>(e.key,e.val))=fs.map (fun p=>(.string p.1, .agg #[.string p.2])):=by
  rcases h.f.mp with ⟨h1,_⟩ | h
  · cases h1
  · exact h
 injection h1 with h1
 injection h1 with h1
 subst h1
 have hnk:f ∉ fs.map (·.1):=fun e=>by
  obtain ⟨⟨a,x⟩,e1,rfl⟩:=List.mem_map.1 e
  have:=(h.f.fl a x).1 e1
  simp only at hnew
  rw [hnew] at this;cases this
 obtain ⟨a,c⟩:=eng_put h.e h.f h4 hnew ht
 exact ⟨_,store_file f t h4 h5 hnk,a.filesTo _,c⟩
theorem change_files (st:St V) (f:ByteArray) (G:ByteArray→Option ByteArray):({ st with files:=G }:St V).change f = { st.change f with files:=G }:=by
 unfold St.change St.source
 cases st.src f <;> simp
def PutPost (W0:World) (fs:List (ByteArray × ByteArray)) (st:St V) (bs:Nat) (f t:ByteArray) (w':World):Prop :=
 ∃ L' fm',ENG (st.setF f t) L' none bs fm' w'∧FSt W0 (fs ++ [(f,t)]) (st.setF f t).files L' fm' w'
theorem putM {b:Nat} (h:Put W0 fs st L bs b w) {f t:ByteArray} (hf:f.size≤8) (hnew:st.files f=none) (ht:t.size≤400) (hr:st.rev < 1000) :
 Calls Tryz.prog 32 #[ptr bs, .string f, .string t] w fun e w'=>e = .returned (.tuple #[])∧PutPost W0 fs st bs f t w':=by
 have c0:=h.c0
 have hP:Hid (Put W0 fs st L bs b w):=h
 have hmn:∀ W:World,(binOp .eql 56 (.map (some b)) (.map none)).run Tryz.prog W = .ok (.bool false) W:=fun W=>run_eql_map_nil W 56 9 102 (some b) Tryz.underlying56
 have HF:=hid hf
 have HN:=hid hnew
 have HT:=hid ht
 have HR:=hid hr
 clear h hf hnew ht hr
 go_enter Tryz.func32,Tryz.ntmps32
 go_wp2
 go_region_with (go_at_call 23;go_must (refine (cloneB _ _ ?hh).mono ?_;(case hh=>(unfold BIG;first | (have:=HT.out;omega) | (have:=HF.out;omega)));rintro e w' ⟨rfl,hb⟩;have hP:Hid (Put W0 fs st L bs b w'):=(by first | exact Put.step hP hb | exact Put.step (Put.dr hP) hb | exact Put.step (Put.dr (Put.dr hP)) hb);have c0':=hP.out.c0;clear hb;obtain ⟨o,hst,hpp⟩:=hP.out.put HN.out HT.out;have HPP:=hid hpp;clear hpp))
 all_goals go_wp2_with fail
 all_goals refine (changeC (ENG.below HPP.out.e (by first | exact Below.refl _ _ | exact below_drewN _ _)) f (by have:=HF.out;unfold BIG;omega) HR.out).mono ?_
 all_goals rintro e w2 ⟨rfl,L2,hE,hN⟩
 all_goals
  have HE:=hid (And.intro hE hN)
  clear hE hN
  go_wp2
  go_end0
  refine ⟨rfl,L2, .map (some b),?_,?_⟩
  · have:=HE.out.1
    rw [change_files] at this
    exact this
  · first
     | exact HPP.out.f.next HE.out.2
     | exact (HPP.out.f.below (below_drewN _ _)).next HE.out.2
theorem putN (h:ENG st L none bs (.map none) w) (hF:FSt W0 [] st.files L (.map none) w) {f t:ByteArray} (hf:f.size≤8) (hnew:st.files f=none) (ht:t.size≤400) (hr:st.rev < 1000) :
 Calls Tryz.prog 32 #[ptr bs, .string f, .string t] w fun e w'=>e = .returned (.tuple #[])∧PutPost W0 [] st bs f t w':=by
 obtain ⟨hm1,hm2⟩:=eng_map h hF
 have c0:w.cell? ⟨bs,0,none⟩=some (.map none):=by
  obtain ⟨q,sm,bg,kv,arr,hx⟩:=h
  exact heap_cell (i:=0) hx.s
 have f0:w.frozen? ⟨bs,0,none⟩=false:=by
  obtain ⟨q,sm,bg,kv,arr,hx⟩:=h
  exact heap_frozen hx.s
 obtain ⟨cs,hs⟩:∃ cs,w.heap[bs]? = some (.cells cs 66):=by
  obtain ⟨q,sm,bg,kv,arr,hx⟩:=h
  exact ⟨_,hx.s⟩
 have hb:=heap_lt hs
 have d0:∀ o,(w.alloc o).cell? ⟨bs,0,none⟩=some (.map none):=fun o=>by
  rw [heap_cell ((Below.heap_alloc w o bs hb).trans hs),←heap_cell hs];exact c0
 have g0:∀ o,(w.alloc o).frozen? ⟨bs,0,none⟩=false:=fun o=>heap_frozen ((Below.heap_alloc w o bs hb).trans hs)
 have hmn:∀ W:World,(binOp .eql 56 (.map none) (.map none)).run Tryz.prog W = .ok (.bool true) W:=fun W=>run_eql_map_nil W 56 9 102 none Tryz.underlying56
 have hmk:∀ W:World,(Instr.makeMap 56 none).run Tryz.prog W = .ok (.map (some W.heap.size)) (W.alloc (.map #[] 0)):=fun W=>@run_makeMap Tryz.prog 56 W
 have hP:Hid (Put W0 [] st L bs w.heap.size ((w.setCell ⟨bs,0,none⟩ (.map (some w.heap.size))).alloc (.map #[] 0))):=⟨hm1,hm2⟩
 have HF:=hid hf
 have HN:=hid hnew
 have HT:=hid ht
 have HR:=hid hr
 clear h hF hm1 hm2 hf hnew ht hr hs
 go_enter Tryz.func32,Tryz.ntmps32
 go_wp2
 generalize (w.setCell ⟨bs,0,none⟩ (.map (some w.heap.size))).alloc (.map #[] 0)=W at hP ⊢
 have e0:W.cell? ⟨bs,0,none⟩=some (.map (some w.heap.size)):=hP.out.c0
 clear c0 f0 d0 g0 hmn hmk hb
 go_region_with (go_at_call 23;go_must (refine (cloneB _ _ ?hh).mono ?_;(case hh=>(unfold BIG;first | (have:=HT.out;omega) | (have:=HF.out;omega)));rintro e w' ⟨rfl,hb⟩;have hP:Hid (Put W0 [] st L bs w.heap.size w'):=(by first | exact Put.step hP hb | exact Put.step (Put.dr hP) hb | exact Put.step (Put.dr (Put.dr hP)) hb);have c0':=hP.out.c0;clear hb;obtain ⟨o,hst,hpp⟩:=hP.out.put HN.out HT.out;have HPP:=hid hpp;clear hpp))
 all_goals go_wp2_with fail
 all_goals refine (changeC (ENG.below HPP.out.e (by first | exact Below.refl _ _ | exact below_drewN _ _)) f (by have:=HF.out;unfold BIG;omega) HR.out).mono ?_
 all_goals rintro e w2 ⟨rfl,L2,hE,hN⟩
 all_goals
  have HE:=hid (And.intro hE hN)
  clear hE hN
  go_wp2
  go_end0
  refine ⟨rfl,L2, .map (some w.heap.size),?_,?_⟩
  · have:=HE.out.1
    rw [change_files] at this
    exact this
  · first
     | exact HPP.out.f.next HE.out.2
     | exact (HPP.out.f.below (below_drewN _ _)).next HE.out.2
theorem putC (h:ENG st L none bs fm w) (hF:FSt W0 fs st.files L fm w) {f t:ByteArray} (hf:f.size≤8) (hnew:st.files f=none) (ht:t.size≤400) (hr:st.rev < 1000) :
 Calls Tryz.prog 32 #[ptr bs, .string f, .string t] w fun e w'=>e = .returned (.tuple #[])∧PutPost W0 fs st bs f t w':=by
 rcases hF.mp with ⟨rfl,rfl⟩ | ⟨b,es,n,rfl,_⟩
 · exact putN h hF hf hnew ht hr
 · exact putM ⟨h,hF⟩ hf hnew ht hr
theorem revC (h:ENG st L none bs fm w):Calls Tryz.prog 26 #[.pointer (some ⟨bs,1,none⟩)] w fun e w'=>e = .returned (.int .i64 st.rev)∧w'=w:=by
 have c1:=h.cell1.1
 clear h
 go_enter Tryz.func26,Tryz.ntmps26
 go_wp2
 go_ret
 exact ⟨rfl,rfl⟩
def SetPost2 (W0:World) (fs:List (ByteArray × ByteArray)) (st:St V) (bs:Nat) (f t:ByteArray) (w':World):Prop :=
 if t.size≤400 then PutPost W0 fs { st with began:=[] } bs f t w' else ∃ L' fm',ENG { st with began:=[] } L' none bs fm' w'∧FSt W0 fs st.files L' fm' w'
theorem setC (h:ENG st L none bs fm w) (hF:FSt W0 fs st.files L fm w) {f t:ByteArray} (hfb:fileB f=true) (hnew:st.files f=none) (hlen:fs.length≤5) (hr:st.rev < 1000) (hm:t.size≤maxLen) :
 Calls Tryz.prog 18 #[ptr bs, .string f, .string t] w fun e w'=>e = .returned (.int .i64 (if t.size≤400 then 0 else 2))∧SetPost2 W0 fs st bs f t w':=by
 have HB:=hid (beginC h)
 have HF:=hid hF
 have HIF:=hid (fun W=>isFile_any f W)
 rw [hfb] at HIF
 have hf8:f.size≤8:=by
  unfold fileB at hfb
  simp only [Bool.and_eq_true] at hfb
  exact nameB_le8 hfb.1.1
 have H8:=hid hf8
 have HN:=hid hnew
 have HL:=hid hlen
 have HR:=hid hr
 unfold maxLen at hm
 unfold SetPost2
 clear h hF hfb hnew hlen hr hf8
 by_cases ht:t.size≤400
 · have hlt:¬ ((400:Int) < (t.size:Int)):=by omega
   have HT:=hid ht
   simp only [if_pos ht]
   clear ht
   go_enter Tryz.func18,Tryz.ntmps18
   go_wp2_with fail
   refine HB.out.mono ?_
   rintro e w1 ⟨rfl,hh⟩
   have H1:=hid (And.intro hh.out.1 (HF.out.next hh.out.2))
   clear hh
   go_wp2_with fail
   refine (HIF.out w1).mono ?_
   rintro e w2 ⟨rfl,rfl⟩
   have HTX:=hid (textG H1.out.1 H1.out.2.files f)
   rw [show ({ st with began:=[] }:St V).files f=none from HN.out] at HTX
   go_wp2_with fail
   refine HTX.out.mono ?_
   rintro e w3 ⟨rfl,hb⟩
   have H3:=hid (And.intro (H1.out.1.below hb) (H1.out.2.below hb))
   clear hb HTX
   go_wp2_with fail
   refine (fullC H3.out.1 H3.out.2 HL.out).mono ?_
   rintro e w4 ⟨rfl,rfl⟩
   have hr1:¬ ((1000:Int)≤(st.rev:Int)):=by have:=HR.out;omega
   have HRV:=hid (revC H3.out.1)
   go_wp2_with fail
   refine HRV.out.mono ?_
   rintro e w5 ⟨rfl,rfl⟩
   go_wp2_with fail
   refine (putC H3.out.1 H3.out.2 H8.out HN.out HT.out HR.out).mono ?_
   rintro e w6 ⟨rfl,hp⟩
   have HP:=hid hp
   clear hp
   go_wp2
   go_ret
   exact ⟨rfl,HP.out⟩
 · have hlt:(400:Int) < (t.size:Int):=by omega
   simp only [if_neg ht]
   clear ht
   go_enter Tryz.func18,Tryz.ntmps18
   go_wp2_with fail
   refine HB.out.mono ?_
   rintro e w1 ⟨rfl,hh⟩
   have H1:=hid (And.intro hh.out.1 (HF.out.next hh.out.2))
   clear hh
   go_wp2_with fail
   refine (HIF.out w1).mono ?_
   rintro e w2 ⟨rfl,rfl⟩
   go_wp2
   go_ret
   exact ⟨rfl,L,fm,H1.out.1,H1.out.2⟩
end
abbrev newO:Obj := .cells #[.map none, .int .i64 0, .map none, .map none, .slice none 0 0, .slice none 0 0, .int .u64 0] 66
theorem newC (w:World):Calls Tryz.prog 17 #[] w fun e w'=>e = .returned (.pointer (some ⟨w.heap.size,0,none⟩))∧w'=w.alloc newO:=by
 go_enter Tryz.func17,Tryz.ntmps17
 go_wp2
 go_ret
 exact ⟨rfl,rfl⟩
def stNew:St V:=⟨0,fun _=>none,fun _=>none,fun _=>none,[],[],0⟩
def layNew (bs:Nat):Lay:=⟨fun _=>0,fun _=>0,fun b=>b=bs⟩
theorem eng_new {W0 w:World} {bs:Nat} (h:w.heap[bs]? = some newO) (hl:Below W0.heap.size W0 w) (hbs:W0.heap.size≤bs):ENG stNew (layNew bs) none bs (.map none) w∧FSt W0 [] stNew.files (layNew bs) (.map none) w:=by
 refine ⟨⟨.map none, .map none, .slice none 0 0, .slice none 0 0,[],⟨⟨h,rfl,fun b hb=>by rw [show b=bs from hb];exact heap_lt h, .inl ⟨rfl,fun _=>rfl⟩,fun f c hf=>by simp [stNew] at hf,fun f g hf=>absurd rfl hf,fun b hb=>by simp at hb, .inl ⟨rfl,fun _=>rfl⟩,⟨World.ownsRow_nil _ _ _ _,fun g hg=>by simp [Value.ownBlock] at hg⟩,⟨World.ownsRow_nil _ _ _ _,fun g hg=>by simp [Value.ownBlock] at hg⟩,List.Perm.refl _,List.nodup_nil,Nat.zero_le _,fun k hk=>by simp at hk,fun k m hk=>by simp [stNew] at hk⟩,fun i hi=>by simp at hi⟩⟩, .inl ⟨rfl,rfl⟩,List.nodup_nil,fun f x=>by simp [stNew],fun f x hf=>by simp [stNew] at hf,hl,fun b hb=>by rw [show b=bs from hb];exact hbs⟩
structure Raw (st:St V):Prop where
 sl:∀ k,st.sl k=none
 kept:st.kept = []
 uses:st.uses=0
 began:st.began = []
theorem raw_new:Raw stNew:=⟨fun _=>rfl,rfl,rfl,rfl⟩
theorem Raw.beg {st:St V} (h:Raw st):Raw { st with began:=[] }:=⟨h.sl,h.kept,h.uses,rfl⟩
theorem Raw.setF {st:St V} (h:Raw st) (f t:ByteArray):Raw (st.setF f t):=⟨h.sl,h.kept,h.uses,h.began⟩
section
variable {W0:World} {bs:Nat} {fm:Value} {st:St V} {L:Lay} {w:World} {fs:List (ByteArray × ByteArray)} {v:ByteArray→ByteArray→ByteArray}
theorem Raw.well (h:Raw st) (hE:ENG st L none bs fm w) (hF:FSt W0 fs st.files L fm w):Well W0 bs fm st.files v 0 st w:=by
 refine ⟨⟨L,hE,hF.files⟩,⟨rfl,fun k m hk => ?_,fun k => ?_,?_⟩,fun k => ?_,?_,?_,?_⟩
 · rw [h.sl] at hk;cases hk
 · rw [h.kept]
   constructor
   · intro hk;simp at hk
   · rintro ⟨m,x,hk,_⟩;rw [h.sl] at hk;cases hk
 · rw [h.kept];exact List.nodup_nil
 · unfold actB;rw [h.sl]
 · exact ⟨by rw [h.began];exact Nat.zero_le _,fun k hk=>by rw [h.began] at hk;simp at hk⟩
 · rw [h.kept];exact Nat.zero_le _
 · rw [h.uses];exact Nat.zero_le _
theorem Well.below {F:Txt} {n:Nat} (h:Well W0 bs fm F v n st w) {w':World} (hb:Below w.heap.size w w'):Well W0 bs fm F v n st w':=by
 obtain ⟨L,hA⟩:=h.ex
 exact ⟨⟨L,hA.below hb⟩,h.inv,h.idle,h.beg,h.kept,h.uses⟩
theorem Well.low {F:Txt} {n:Nat} (h:Well W0 bs fm F v n st w):Below W0.heap.size W0 w:=by
 obtain ⟨L,hA⟩:=h.ex
 exact hA.m.low
end
theorem ask_walk {w:World} {bs:Nat} {kind ec:Int} {f nm t:ByteArray} {Q:World→Prop} {R:Nat→World→Prop}
 (HA:∀ W,Below w.heap.size w W→Calls Tryz.prog 9 #[ptr bs, .int .i64 kind, .string f, .string nm] W fun e w'=>e = .returned (.tuple #[.string t, .int .i64 ec])∧Q w')
 (HR:∀ w',Q w'→Calls Tryz.prog 25 #[ptr bs] w' fun e w'' => ∃ a n c,e = .returned (.slice a n c)∧R n w'') :
 Calls Tryz.prog 13 #[ptr bs, .agg #[.int .i64 kind, .string f, .string nm]] w fun e w' => ∃ a n c,e = .returned (.tuple #[.string t, .int .i64 ec, .slice a n c])∧R n w':=by
 have HB:=hid (below_newK w (.cells #[.int .i64 kind, .string f, .string nm] 41))
 have HAA:=hid HA
 have HRR:=hid HR
 clear HA HR
 go_enter Tryz.func13,Tryz.ntmps13
 go_wp2_with fail
 refine (HAA.out _ HB.out).mono ?_
 rintro e w1 ⟨rfl,hq⟩
 have HQ:=hid hq
 clear hq
 go_wp2_with fail
 refine (HRR.out w1 HQ.out).mono ?_
 rintro e w2 ⟨a,n,c,rfl,hr⟩
 have HR2:=hid hr
 clear hr
 go_wp2
 refine bodyPost_ret (v := .tuple #[.string t, .int .i64 ec, .slice a n c]) (by simp [results,Tryz.results13,go_sem];try rfl) rfl ?_
 exact ⟨a,n,c,rfl,HR2.out⟩
section
variable {W0:World} {bs:Nat} {fm:Value} {st:St V} {w:World} {F:Txt} {v:ByteArray→ByteArray→ByteArray} {fs:List ByteArray} {n:Nat}
def ansT (F:Txt) (v:ByteArray→ByteArray→ByteArray) (kind:Int) (f nm:ByteArray):ByteArray:=if refX kind f nm=0 then txtV (ansF F v (qK kind f nm)) else nob
theorem ranW (hF:Files W0 F v fs) (h:Well W0 bs fm F v n st w) :
 Calls Tryz.prog 25 #[ptr bs] w fun e w' => ∃ a m c,e = .returned (.slice a m c)∧(m=st.began.length∧Well W0 bs fm F v n st w'):=by
 obtain ⟨L,hA⟩:=h.ex
 refine (ranC hA.e h.beg (pt_up hF.pt hA.m.low)).mono ?_
 rintro e w' ⟨x,rfl,ho,hb⟩
 have hsh:∃ a m c,x = .slice a m c∧m=st.began.length:=by
  obtain ⟨_,⟨h1,h2⟩ | ⟨g,c,_,h1,_⟩⟩:=ho
  · exact ⟨none,0,0,h1,h2.symm⟩
  · exact ⟨_,_,c,h1,rfl⟩
 obtain ⟨a,m,c,rfl,hm⟩:=hsh
 exact ⟨a,m,c,rfl,hm,h.below hb⟩
theorem askOnce (hF:Files W0 F v fs) (hn:n < 3000000) (h:Well W0 bs fm F v n st w) (kind:Int) (f nm:ByteArray) :
 Calls Tryz.prog 13 #[ptr bs, .agg #[.int .i64 kind, .string f, .string nm]] w fun e w' => ∃ a m c,e = .returned (.tuple #[.string (ansT F v kind f nm), .int .i64 (refX kind f nm), .slice a m c])∧∃ st',Well W0 bs fm F v (n+1) st' w'∧(refX kind f nm=0→qK kind f nm∈st'.kept):=by
 by_cases hr:refX kind f nm=0
 · rw [show ansT F v kind f nm=txtV (ansF F v (qK kind f nm)) from if_pos hr]
   rw [hr]
   refine ask_walk (Q:=fun w' => ∃ st',Well W0 bs fm F v (n+1) st' w'∧qK kind f nm∈st'.kept) (R:=fun _ w' => ∃ st',Well W0 bs fm F v (n+1) st' w'∧((0:Int)=0→qK kind f nm∈st'.kept)) (fun W hb=>askC hF hn (h.below hb) hr) fun w' ⟨st',h1,h2⟩=>(ranW hF h1).mono ?_
   rintro e w'' ⟨a,m,c,rfl,_,h3⟩
   exact ⟨a,m,c,rfl,st',h3,fun _=>h2⟩
 · rw [show ansT F v kind f nm=nob from if_neg hr]
   refine ask_walk (Q:=fun w' => ∃ st',Well W0 bs fm F v n st' w') (R:=fun _ w' => ∃ st',Well W0 bs fm F v (n+1) st' w'∧(refX kind f nm=0→qK kind f nm∈st'.kept)) (fun W hb=>(askRef (h.below hb) hr).mono ?_) fun w' ⟨st',h1⟩=>(ranW hF h1).mono ?_
   · rintro e w' ⟨rfl,h1⟩
     exact ⟨rfl,_,h1⟩
   · rintro e w'' ⟨a,m,c,rfl,_,h3⟩
     exact ⟨a,m,c,rfl,st',⟨h3.ex,h3.inv,h3.idle,h3.beg,h3.kept,Nat.le_trans h3.uses (Nat.mul_le_mul_right _ (Nat.le_succ n))⟩,fun e=>absurd e hr⟩
theorem askTwice (hF:Files W0 F v fs) (hn:n < 3000000) (h:Well W0 bs fm F v n st w) (kind:Int) (f nm:ByteArray) (hk:refX kind f nm=0→qK kind f nm∈st.kept) :
 Calls Tryz.prog 13 #[ptr bs, .agg #[.int .i64 kind, .string f, .string nm]] w fun e w' => ∃ a m c,e = .returned (.tuple #[.string (ansT F v kind f nm), .int .i64 (refX kind f nm), .slice a m c])∧m=0∧∃ st',Well W0 bs fm F v (n+1) st' w':=by
 by_cases hr:refX kind f nm=0
 · rw [show ansT F v kind f nm=txtV (ansF F v (qK kind f nm)) from if_pos hr]
   have hk':=hk hr
   rw [hr]
   refine ask_walk (Q:=fun w' => ∃ st',Well W0 bs fm F v (n+1) st' w'∧st'.began = []) (R:=fun m w'=>m=0∧∃ st',Well W0 bs fm F v (n+1) st' w') (fun W hb=>askAgain hF hn (h.below hb) hr hk') fun w' ⟨st',h1,h2⟩=>(ranW hF h1).mono ?_
   rintro e w'' ⟨a,m,c,rfl,h4,h3⟩
   exact ⟨a,m,c,rfl,by rw [h4,h2];rfl,st',h3⟩
 · rw [show ansT F v kind f nm=nob from if_neg hr]
   refine ask_walk (Q:=fun w' => ∃ st',Well W0 bs fm F v n st' w'∧st'.began = []) (R:=fun m w'=>m=0∧∃ st',Well W0 bs fm F v (n+1) st' w') (fun W hb=>(askRef (h.below hb) hr).mono ?_) fun w' ⟨st',h1,h2⟩=>(ranW hF h1).mono ?_
   · rintro e w' ⟨rfl,h1⟩
     exact ⟨rfl,_,h1,rfl⟩
   · rintro e w'' ⟨a,m,c,rfl,h4,h3⟩
     exact ⟨a,m,c,rfl,by rw [h4,h2];rfl,st',⟨h3.ex,h3.inv,h3.idle,h3.beg,h3.kept,Nat.le_trans h3.uses (Nat.mul_le_mul_right _ (Nat.le_succ n))⟩⟩
theorem lookW2 (h:Well W0 bs fm F v n st w) :
 Calls Tryz.prog 14 #[ptr bs] w fun e w' => ∃ r nf k:Int,e = .returned (.agg #[.int .i64 r, .int .i64 nf, .int .i64 k])∧k≤40∧Well W0 bs fm F v n st w':=by
 obtain ⟨L,hA⟩:=h.ex
 refine (lookC hA.e hA.m).mono ?_
 rintro e w' ⟨nf,rfl,hb⟩
 exact ⟨_,nf,_,rfl,by have:=h.kept;omega,h.below hb⟩
end
structure Txs (W:World) (a:Option Addr) (Xs:List ByteArray):Prop where
 ex:∃ b o:Nat,(0 < Xs.length→a=some ⟨b,o,none⟩∧b < W.heap.size)∧∀ (j:Nat) X,Xs[j]? = some X→W.cell? ⟨b,o+j,none⟩=some (.string X)
 sz:∀ X∈Xs,X.size≤maxLen
 ln:Xs.length≤maxLen
def fileN (i:Nat):ByteArray:=⟨#[UInt8.ofNat (97+i)]⟩
theorem fileN_inj {i j:Nat} (hi:i < 6) (hj:j < 6) (h:fileN i=fileN j):i=j:=by
 have key:∀ a:Fin 6,∀ b:Fin 6,fileN a=fileN b→a=b:=by decide
 have:=key ⟨i,hi⟩ ⟨j,hj⟩ h
 exact Fin.mk.inj this
theorem fileN_ok {i:Nat} (hi:i < 6):fileB (fileN i)=true:=by
 have key:∀ a:Fin 6,fileB (fileN a)=true:=by
  intro a
  match a with
  | 0=>show fileB (fileN 0)=true;kernel_rfl
  | 1=>show fileB (fileN 1)=true;kernel_rfl
  | 2=>show fileB (fileN 2)=true;kernel_rfl
  | 3=>show fileB (fileN 3)=true;kernel_rfl
  | 4=>show fileB (fileN 4)=true;kernel_rfl
  | 5=>show fileB (fileN 5)=true;kernel_rfl
 exact key ⟨i,hi⟩
theorem fileC (i:Nat) (hi:i < 6) (w:World):Calls Tryz.prog 10 #[.int .i64 (i:Nat)] w fun e w'=>e = .returned (.string (fileN i))∧w'=w:=by
 have h6:i=0∨i=1∨i=2∨i=3∨i=4∨i=5:=by omega
 rcases h6 with rfl | rfl | rfl | rfl | rfl | rfl
 all_goals
  go_enter Tryz.func10,Tryz.ntmps10
  go_wp2
  go_ret
  exact ⟨rfl,rfl⟩
structure BGn (W0:World) (bs:Nat) (i:Nat) (wr:World):Prop where
 ex:∃ (st:St V) (L:Lay) (fm:Value) (fs:List (ByteArray × ByteArray)),ENG st L none bs fm wr∧FSt W0 fs st.files L fm wr∧Raw st∧st.rev≤i∧fs.length≤i∧∀ f x,st.files f=some x→∃ j,j < i∧f=fileN j
theorem BGn.below {W0:World} {bs i:Nat} {wr w':World} (h:BGn W0 bs i wr) (hb:Below wr.heap.size wr w'):BGn W0 bs i w':=by
 obtain ⟨st,L,fm,fs,h1,h2,h3⟩:=h.ex
 exact ⟨st,L,fm,fs,h1.below hb,h2.below hb,h3⟩
theorem BGn.low {W0:World} {bs i:Nat} {wr:World} (h:BGn W0 bs i wr):Below W0.heap.size W0 wr:=by
 obtain ⟨st,L,fm,fs,_,h2,_⟩:=h.ex
 exact h2.low
theorem rev_setF (st:St V) (f t:ByteArray):(st.setF f t).rev=st.rev+1:=rfl
theorem BGn.set {W0:World} {bs i:Nat} {wr:World} (h:BGn W0 bs i wr) (hi:i < 6) (t:ByteArray) (ht:t.size≤maxLen) :
 Calls Tryz.prog 18 #[ptr bs, .string (fileN i), .string t] wr fun e w' => ∃ c:Int,e = .returned (.int .i64 c)∧BGn W0 bs (i+1) w':=by
 obtain ⟨st,L,fm,fs,h1,h2,h3,h4,h5,h6⟩:=h.ex
 have hnew:st.files (fileN i)=none:=by
  cases hf:st.files (fileN i) with
  | none=>rfl
  | some x =>
   obtain ⟨j,hj,e⟩:=h6 _ x hf
   have:=fileN_inj hi (by omega) e
   omega
 refine (setC h1 h2 (fileN_ok hi) hnew (by omega) (by omega) ht).mono ?_
 rintro e w' ⟨rfl,hp⟩
 refine ⟨_,rfl,?_⟩
 unfold SetPost2 at hp
 split at hp
 · obtain ⟨L',fm',hE,hF⟩:=hp
   refine ⟨_,L',fm',_,hE,hF,h3.beg.setF _ _,?_,by simp;omega,fun f x hx => ?_⟩
   · rw [rev_setF];show st.rev+1≤i+1;omega
   · by_cases hfi:f=fileN i
     · exact ⟨i,by omega,hfi⟩
     · have hx':st.files f=some x:=by
        have:(({ st with began:=[] }:St V).setF (fileN i) t).files f=if f=fileN i then some t else st.files f:=rfl
        rw [this,if_neg hfi] at hx
        exact hx
       obtain ⟨j,hj,e⟩:=h6 f x hx'
       exact ⟨j,by omega,e⟩
 · obtain ⟨L',fm',hE,hF⟩:=hp
   exact ⟨_,L',fm',fs,hE,hF,h3.beg,by show st.rev≤i+1;omega,by omega,fun f x hx=>by
    obtain ⟨j,hj,e⟩:=h6 f x hx
    exact ⟨j,by omega,e⟩⟩
def EngAt (W0:World):Prop:=∀ (bs:Nat) (fm:Value) (n:Nat),SetC W0 (engM wp (.s cyc_) n) bs fm
theorem known_ref:refX 7 zF qN=0:=by kernel_rfl
theorem knownC {W1 w:World} {bs:Nat} {fm:Value} {L:Lay} (hp:PT W1.heap.size W1) (he:EngAt W1) (hE:ENG (({ stNew with began:=[] }:St V).setF zF knownT0) L none bs fm w) (hF:FSt W1 ([] ++ [(zF,knownT0)]) (({ stNew with began:=[] }:St V).setF zF knownT0).files L fm w) :
 Calls Tryz.prog 9 #[ptr bs, .int .i64 7, .string zF, .string qN] w fun e w'=>e = .returned (.tuple #[.string ⟨#[49,48]⟩, .int .i64 0])∧Below W1.heap.size W1 w':=by
 obtain ⟨v,hv⟩:=vals_exist knownF
 have hfile:(({ stNew with began:=[] }:St V).setF zF knownT0).files=knownF:=rfl
 have hw:Well W1 bs fm knownF v 0 (({ stNew with began:=[] }:St V).setF zF knownT0) w:=(raw_new.beg.setF zF knownT0).well (v:=v) hE hF
 refine (askC ⟨hp,he,known_ok,hv⟩ (by decide) hw known_ref).mono ?_
 rintro e w' ⟨rfl,st',h1,_⟩
 refine ⟨?_,h1.low⟩
 have:qK 7 zF qN=⟨7,zF,qN⟩:=rfl
 rw [this,known_ans hv]
 rfl
theorem known_file:fileB zF=true:=by kernel_rfl
theorem known_size:knownT0.size≤400:=by decide
theorem knownSet {W1:World}:Calls Tryz.prog 18 #[.pointer (some ⟨W1.heap.size,0,none⟩), .string zF, .string knownT0] (W1.alloc newO) fun e w'=>e = .returned (.int .i64 0)∧∃ L fm,ENG (({ stNew with began:=[] }:St V).setF zF knownT0) L none W1.heap.size fm w'∧FSt W1 ([] ++ [(zF,knownT0)]) (({ stNew with began:=[] }:St V).setF zF knownT0).files L fm w':=by
 obtain ⟨hE,hF⟩:=eng_new (W0:=W1) (new_heap W1 newO) (below_newK W1 newO) (Nat.le_refl _)
 refine (setC hE hF known_file rfl (Nat.zero_le _) (by decide) (by unfold maxLen;have:=known_size;omega)).mono ?_
 rintro e w' ⟨rfl,hp⟩
 rw [if_pos known_size]
 unfold SetPost2 at hp
 rw [if_pos known_size] at hp
 exact ⟨rfl,hp⟩
theorem begun_start {W w4:World} (h:Below (W.alloc newO).heap.size (W.alloc newO) w4):BGn W W.heap.size 0 w4:=by
 have h0:=new_heap W newO
 have h1:w4.heap[W.heap.size]? = some newO:=below_heap h (heap_lt h0) h0
 obtain ⟨hE,hF⟩:=eng_new (W0:=W) h1 (below_seq (below_newK W newO) h) (Nat.le_refl _)
 exact ⟨_,_,_,_,hE,hF,raw_new,Nat.le_refl _,Nat.le_refl _,fun f x hx=>by simp [stNew] at hx⟩
theorem begunC {W:World} {a:Option Addr} {Xs:List ByteArray} {c:Nat} (hT:Txs W a Xs) (hp:PT W.heap.size W) (he:∀ W1,Below W.heap.size W W1→EngAt W1) :
 Calls Tryz.prog 7 #[.slice a Xs.length c] W fun e w'=>e = .returned (.tuple #[.pointer (some ⟨W.heap.size,0,none⟩), .bool true])∧∃ i,i≤6∧BGn W W.heap.size i w':=by
 have HT:=hid hT
 have HN2:=hid (newC (W.alloc newO))
 have hsz:(W.alloc newO).heap.size=W.heap.size+1:=by simp
 have HKS:Hid (Calls Tryz.prog 18 #[.pointer (some ⟨W.heap.size+1,0,none⟩), .string ⟨#[122]⟩, .string ⟨#[112,117,98,32,108,101,116,32,113,58,105,110,116,32,61,32,50,32,42,32,51,32,43,32,119,59,32,108,101,116,32,119,58,105,110,116,32,61,32,52,59]⟩] ((W.alloc newO).alloc newO) fun e w'=>e = .returned (.int .i64 0)∧∃ L fm,ENG (({ stNew with began:=[] }:St V).setF zF knownT0) L none (W.heap.size+1) fm w'∧FSt (W.alloc newO) ([] ++ [(zF,knownT0)]) (({ stNew with began:=[] }:St V).setF zF knownT0).files L fm w'):=hid (by
  have h:=knownSet (W1:=W.alloc newO)
  rw [hsz] at h
  exact h)
 have HBS:=hid (fun w4 h=>begun_start (W:=W) (w4:=w4) h)
 have HKC:Hid (∀ (w:World) (fm:Value) (L:Lay),ENG (({ stNew with began:=[] }:St V).setF zF knownT0) L none (W.heap.size+1) fm w→FSt (W.alloc newO) ([] ++ [(zF,knownT0)]) (({ stNew with began:=[] }:St V).setF zF knownT0).files L fm w→Calls Tryz.prog 9 #[.pointer (some ⟨W.heap.size+1,0,none⟩), .int .i64 7, .string ⟨#[122]⟩, .string ⟨#[113]⟩] w fun e w'=>e = .returned (.tuple #[.string ⟨#[49,48]⟩, .int .i64 0])∧Below (W.alloc newO).heap.size (W.alloc newO) w'):=hid (fun w fm L h1 h2=>knownC (pt_up hp (below_newK W newO)) (he _ (below_newK W newO)) h1 h2)
 obtain ⟨n,hn⟩:∃ n,n=Xs.length:=⟨_,rfl⟩
 have hnm:(n:Int)≤9223372036854775807:=by have:=hT.ln;unfold maxLen at this;omega
 rw [←hn]
 have HN:=hid hn
 clear hT hp he hn hsz
 go_enter Tryz.func7,Tryz.ntmps7
 go_wp2_with fail
 refine (newC W).mono ?_
 rintro e w1 ⟨rfl,rfl⟩
 go_wp2_with fail
 refine HN2.out.mono ?_
 rintro e w2 ⟨rfl,rfl⟩
 go_wp2_with fail
 refine HKS.out.mono ?_
 rintro e w3 ⟨rfl,L3,fm3,hE3,hF3⟩
 have HK3:=hid (HKC.out w3 fm3 L3 hE3 hF3)
 clear hE3 hF3 HKS HKC HN2
 go_wp2_with fail
 refine HK3.out.mono ?_
 rintro e w4 ⟨rfl,hb4⟩
 have HG:=hid (HBS.out w4 hb4)
 clear hb4 HBS HK3
 go_wp2
 generalize hbs:W.heap.size=bs at HG ⊢
 go_loopg [9] 6 (fun f v9 wr => ∃ i,i+f=6∧v9 = .int .i64 (i:Nat)∧BGn W bs i wr)
 case atStart=>exact ⟨0,by omega,rfl,HG.out⟩
 case round =>
  clear HG
  obtain ⟨i,hi,rfl,hg⟩:=hrel
  have HI:=hid hg
  clear hg
  have hi0:(0:Int)≤(i:Int):=by omega
  by_cases hin:i < n
  · have hin2:(i:Int) < (n:Int):=by omega
    by_cases hi6:i < 6
    · have hi62:(i:Int) < 6:=by omega
      obtain ⟨X,hX⟩:∃ X,Xs[i]? = some X:=⟨_,List.getElem?_eq_getElem (by have:=HN.out;omega)⟩
      obtain ⟨b,o,hao,hcell⟩:=HT.out.ex
      obtain ⟨rfl,hbl⟩:=hao (by have:=HN.out;omega)
      have c0:wr.cell? ⟨b,o+i,none⟩=some (.string X):=cell_kept HI.out.low (hcell i X hX)
      have HX:=hid (HT.out.sz X (List.mem_of_getElem? hX))
      have HI6:=hid hi6
      clear hX hcell hbl hao hi6
      go_wp2_with fail
      go_region_with (first
       | (go_at_call 10;go_must (refine (fileC i HI6.out _).mono ?_;rintro e w2 ⟨rfl,rfl⟩))
       | (go_at_call 18;go_must (refine ((HI.out.below (by first | exact Below.refl _ _ | exact below_drewN _ _)).set HI6.out X HX.out).mono ?_;rintro e w3 ⟨cc,rfl,hg3⟩;have HG3:=hid hg3;clear hg3)))
      all_goals go_wp2
      all_goals go_roundg (6 - (i+1))
      all_goals first
       | exact ⟨i+1,by have:=HI6.out;omega,by go_num,HG3.out⟩
       | exact ⟨i+1,by have:=HI6.out;omega,by go_num,HG3.out.below (below_drewN _ _)⟩
       | (have:=HI6.out;omega)
    · have hi62:¬ ((i:Int) < 6):=by omega
      go_wp2
      go_ret2
      exact ⟨rfl,i,by omega,HI.out⟩
  · have hin2:¬ ((i:Int) < (n:Int)):=by omega
    go_wp2
    go_ret2
    exact ⟨rfl,i,by omega,HI.out⟩
structure Qn where
 kind:Int
 file:ByteArray
 name:ByteArray
structure Qss (W:World) (a:Option Addr) (Qs:List Qn):Prop where
 ex:∃ b o:Nat,(0 < Qs.length→a=some ⟨b,o,none⟩∧b < W.heap.size)∧∀ (j:Nat) q,Qs[j]? = some q→W.cell? ⟨b,o+j * 3,none⟩=some (.int .i64 q.kind)∧W.cell? ⟨b,o+j * 3+1,none⟩=some (.string q.file)∧W.cell? ⟨b,o+j * 3+2,none⟩=some (.string q.name)
def sixF:List ByteArray:=(List.range 6).map fileN
theorem six_mem {j:Nat} (hj:j < 6):fileN j∈sixF:=List.mem_map.2 ⟨j,List.mem_range.2 hj,rfl⟩
theorem BGn.well {W:World} {bs i:Nat} {w:World} (h:BGn W bs i w) (hi:i≤6) (hp:PT W.heap.size W) (he:EngAt W) :
 ∃ F v fm st,Files W F v sixF∧Well W bs fm F v 0 st w:=by
 obtain ⟨st,L,fm,fs,h1,h2,h3,_,_,h6⟩:=h.ex
 obtain ⟨v,hv⟩:=vals_exist st.files
 refine ⟨st.files,v,fm,st,⟨hp,he,⟨fun f x hx => ?_,by decide,fun f hf => ?_⟩,hv⟩,h3.well h1 h2⟩
 · obtain ⟨j,hj,rfl⟩:=h6 f x hx
   exact ⟨six_mem (by omega),h2.sz _ _ hx⟩
 · obtain ⟨j,hj,rfl⟩:=List.mem_map.1 hf
   show (1:Nat)≤400
   decide
def TW (W:World) (bs:Nat) (fm:Value) (F:Txt) (v:ByteArray→ByteArray→ByteArray) (i:Nat) (w:World):Prop:=∃ st,Well W bs fm F v (2 * i) st w
theorem twiceC {W:World} {a la:Option Addr} {Xs:List ByteArray} {Qs:List Qn} {c lc:Nat} (hT:Txs W a Xs) (hQ:Qss W la Qs) (hl:Qs.length≤1048576) (hp:PT W.heap.size W) (he:∀ W1,Below W.heap.size W W1→EngAt W1) :
 Calls Tryz.prog 4 #[.slice a Xs.length c, .slice la Qs.length lc] W fun e w'=>e = .returned (.bool true)∧Below W.heap.size W w':=by
 have HB:=hid (begunC (c:=c) hT hp he)
 have HW:=hid (fun (i:Nat) (w:World) (h:BGn W W.heap.size i w) (hi:i≤6)=>h.well hi hp (he W (Below.refl _ _)))
 have HQ:=hid hQ
 obtain ⟨n,hn⟩:∃ n,n=Qs.length:=⟨_,rfl⟩
 have hnm:(n:Int)≤1048576:=by omega
 rw [←hn]
 have HN:=hid hn
 have HT:=hid hT
 obtain ⟨m,hm⟩:∃ m,m=Xs.length:=⟨_,rfl⟩
 rw [←hm] at HB ⊢
 clear hT hQ hl hp he hn hm
 go_enter Tryz.func4,Tryz.ntmps4
 go_wp2_with fail
 refine HB.out.mono ?_
 rintro e w1 ⟨rfl,i0,hi0,hg⟩
 obtain ⟨F,v,fm,st,hF,hw⟩:=HW.out i0 w1 hg hi0
 have HF:=hid hF
 have HTW:Hid (TW W W.heap.size fm F v 0 w1):=hid ⟨st,hw⟩
 clear HW HB hg hF hw
 generalize W.heap.size=bs at HTW ⊢
 go_wp2
 go_loopg [7] n (fun f v7 wr => ∃ i,i+f=n∧v7 = .int .i64 (i:Nat)∧TW W bs fm F v i wr)
 case atStart=>exact ⟨0,by omega,rfl,HTW.out⟩
 case round =>
  clear HTW
  obtain ⟨i,hi,rfl,⟨st1,hw1⟩⟩:=hrel
  have HI:=hid hw1
  clear hw1
  have hi0:(0:Int)≤(i:Int):=by omega
  by_cases hin:i < n
  · have hin2:(i:Int) < (n:Int):=by omega
    have HIN:=hid hin
    obtain ⟨q,hq⟩:∃ q,Qs[i]? = some q:=⟨_,List.getElem?_eq_getElem (by have:=HN.out;omega)⟩
    obtain ⟨b,o,hao,hcell⟩:=HQ.out.ex
    obtain ⟨rfl,hbl⟩:=hao (by have:=HN.out;omega)
    obtain ⟨qk,qf,qn⟩:=q
    have hc:=hcell i _ hq
    have HC:=hid hc
    have c0:wr.cell? ⟨b,o+i * 3,none⟩=some (.int .i64 qk):=cell_kept HI.out.low hc.1
    have c1:wr.cell? ⟨b,o+i * 3+1,none⟩=some (.string qf):=cell_kept HI.out.low hc.2.1
    have c2:wr.cell? ⟨b,o+i * 3+2,none⟩=some (.string qn):=cell_kept HI.out.low hc.2.2
    clear hc hcell hbl hao hq hin
    go_wp2_with fail
    refine (askOnce HF.out (by have:=HIN.out;omega) HI.out qk qf qn).mono ?_
    rintro e w2 ⟨a1,m1,n1,rfl,st2,hw2,hk2⟩
    have H2:=hid (And.intro hw2 hk2)
    clear hw2 hk2 c0 c1 c2
    have d0:w2.cell? ⟨b,o+i * 3,none⟩=some (.int .i64 qk):=cell_kept H2.out.1.low HC.out.1
    have d1:w2.cell? ⟨b,o+i * 3+1,none⟩=some (.string qf):=cell_kept H2.out.1.low HC.out.2.1
    have d2:w2.cell? ⟨b,o+i * 3+2,none⟩=some (.string qn):=cell_kept H2.out.1.low HC.out.2.2
    go_wp2_with fail
    refine (askTwice HF.out (by have:=HIN.out;omega) H2.out.1 qk qf qn H2.out.2).mono ?_
    rintro e w3 ⟨a2,m2,n2,rfl,rfl,st3,hw3⟩
    have H3:=hid hw3
    clear hw3 d0 d1 d2 H2
    go_wp2_with fail
    refine (lookW2 H3.out).mono ?_
    rintro e w4 ⟨r,nf,k,rfl,hk40,hw4⟩
    have H4:=hid hw4
    clear hw4 H3
    have hk41:¬ (40 < k):=by omega
    generalize ansT F v qk qf qn=tt
    generalize refX qk qf qn=ec
    have HE:Hid (TW W bs fm F v (i+1) (w4.alloc (.cells #[.int .i64 r, .int .i64 nf, .int .i64 k] 43))):=hid (by
     refine ⟨st3,?_⟩
     rw [show 2 * (i+1)=2 * i+1+1 by omega]
     exact H4.out.below (below_newK _ _))
    go_wp2
    go_roundg (n - (i+1))
    all_goals first
     | exact ⟨i+1,by have:=HIN.out;omega,by go_num,HE.out⟩
     | (have:=HIN.out;omega)
  · have hin2:¬ ((i:Int) < (n:Int)):=by omega
    go_wp2
    go_ret
    exact ⟨rfl,HI.out.low⟩
end Go.Proofs.YthibodlojlkppaaGreatDoor

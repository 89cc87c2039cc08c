/-
  What the texts tell: the answers are what the works come to. The questions that come of one: a closed set of them, and its size. The known text: its sum is ten. The engine's model: what began is not over long. The works ask questions of the eight kinds alone.
-/
import Derived.Test.YthibodlojlkppaaGreatDoorB07
import Derived.Test.YthibodlojlkppaaGreatDoorB15
import Derived.Test.YthibodlojlkppaaGreatDoorB24
import Derived.Test.YthibodlojlkppaaGreatDoorB27
import Derived.Test.YthibodlojlkppaaGreatDoorB35
set_option linter.unusedVariables false
set_option linter.unusedSectionVars false
set_option linter.unusedSimpArgs false
set_option maxRecDepth 100000
set_option maxHeartbeats 40000000

namespace Go.Proofs.YthibodlojlkppaaGreatDoor
open Go.RowKit
variable [DecidableEq K] [LawfulBEq Lk]
section
variable {F:Txt} {v:ByteArray→ByteArray→ByteArray}
def FaultOk (F:Txt):Prop:=∀ f b,(treeF F f).2=some b→b < (toksF F f).length
theorem ev_tree (f:ByteArray) (c:List Itx→Option Nat→Prog V):evalP F (ansF F v) (getR f c)=evalP F (ansF F v) (c (treeF F f).1 (treeF F f).2)∧qs F (ansF F v) (getR f c) = .slot ⟨3,f,nob⟩ :: qs F (ansF F v) (c (treeF F f).1 (treeF F f).2):=⟨rfl,rfl⟩
theorem fix5 (f nm:ByteArray):evalP F (ansF F v) (wFind f nm)=some (.s (findF F f nm))∧qs F (ansF F v) (wFind f nm)=lookF F ⟨5,f,nm⟩:=by
 unfold wFind
 rw [(ev_tree (F:=F) (v:=v) f _).1,(ev_tree (F:=F) (v:=v) f _).2]
 simp only [findF,lookF]
 cases hn:namedX nm (treeF F f).1 with
 | nil =>
  obtain ⟨a,b⟩:=ev_used (F:=F) (v:=v) nm (fun r => .ret (.s r)) (usesX (treeF F f).1 []) none_
  exact ⟨a,by simp only;rw [b];simp [qs,hn]⟩
 | cons i l =>
  cases l with
  | nil=>exact ⟨rfl,by simp [qs,hn]⟩
  | cons j l=>exact ⟨rfl,by simp [qs,hn]⟩
theorem fix6 (f nm:ByteArray):evalP F (ansF F v) (wType f nm)=some (.s (typeF F f nm))∧qs F (ansF F v) (wType f nm)=lookF F ⟨6,f,nm⟩:=by
 unfold wType
 rw [(ev_tree (F:=F) (v:=v) f _).1,(ev_tree (F:=F) (v:=v) f _).2]
 obtain ⟨l,hl⟩:∃ l,namedX nm (treeF F f).1=l:=⟨_,rfl⟩
 have hlk:lookF F ⟨6,f,nm⟩ = .slot ⟨3,f,nob⟩ :: (match namedX nm (treeF F f).1 with | [i]=>(match i.ex with | none => [] | some e=>qTypes F f (namesX e [])) | _ => []):=rfl
 rw [hlk]
 cases l with
 | nil=>simp only [hl,typeF];exact ⟨rfl,rfl⟩
 | cons i l =>
  cases l with
  | cons j l=>simp only [hl,typeF];exact ⟨rfl,rfl⟩
  | nil =>
   obtain ⟨e,he⟩:=named_ex (F:=F) (f:=f) (nm:=nm) (i:=i) (by rw [hl];simp)
   obtain ⟨a,b⟩:=ev_types (F:=F) (v:=v) f (fun M => .ret (.s (if eqB (typeX M e) i.typ then i.typ else bad_))) (namesX e []) fun _=>nob
   simp only [hl,he,typeF]
   exact ⟨a,by rw [b];simp [qs]⟩
theorem fix7 (hok:∀ f n,valOk (v f n)=true) (f nm:ByteArray):evalP F (ansF F v) (wValue f nm)=some (.s (valueF F v f nm))∧qs F (ansF F v) (wValue f nm)=lookF F ⟨7,f,nm⟩:=by
 have e6:ansF F v ⟨6,f,nm⟩ = .s (typeF F f nm):=rfl
 unfold wValue
 simp only [getS,evalP,qs,e6]
 simp only [lookF,valueF,exprF]
 cases hb:(eqB (typeF F f nm) none_ || eqB (typeF F f nm) bad_) with
 | true=>exact ⟨rfl,rfl⟩
 | false =>
  obtain ⟨i,e,h1,h2,h3⟩:=type_named hb
  simp only [Bool.false_eq_true,if_false]
  rw [(ev_tree (F:=F) (v:=v) f _).1,(ev_tree (F:=F) (v:=v) f _).2]
  simp only [h1,h2]
  obtain ⟨a,b⟩:=ev_values (F:=F) (v:=v) hok f (fun fault M => .ret (.s (valueEnd e (typeF F f nm) fault M))) (namesX e []) nob fun _=>0
  rw [a,b]
  exact ⟨rfl,by simp [qs]⟩
theorem fix8 (hF:FaultOk F) (f nm:ByteArray):evalP F (ansF F v) (wReport f)=some (.s (reportF F v f))∧qs F (ansF F v) (wReport f)=lookF F ⟨8,f,nm⟩:=by
 have e2:ansF F v ⟨2,f,nob⟩ = .t (toksF F f):=rfl
 unfold wReport
 simp only [getT,evalP,qs,e2]
 rw [(ev_tree (F:=F) (v:=v) f _).1,(ev_tree (F:=F) (v:=v) f _).2]
 have hi:∀ i∈(treeF F f).1,i.num < (toksF F f).length:=fun i hi=>((treeX_ok (toksF F f)).1 i hi).num
 rw [(ev_items (F:=F) (v:=v) f (toksF F f) (treeF F f).1 _ (treeF F f).1 nob hi).1,(ev_items (F:=F) (v:=v) f (toksF F f) (treeF F f).1 _ (treeF F f).1 nob hi).2]
 simp only [lookF,reportF]
 cases hfl:(treeF F f).2 with
 | none=>exact ⟨rfl,by simp [qs]⟩
 | some b =>
  simp only
  rw [ev_tell (hF f b hfl)]
  exact ⟨rfl,by simp [qs]⟩
theorem ans_fix (hv:ValsOf F v) (hF:FaultOk F) (k:K):evalP F (ansF F v) (wp k)=some (ansF F v k)∧qs F (ansF F v) (wp k)=lookF F k:=by
 have hok:∀ f n,valOk (v f n)=true:=fun f n=>by rw [hv.eq];exact value_ok v f n
 obtain ⟨kd,f,nm⟩:=k
 unfold wp ansF
 simp only
 by_cases h1:kd=1
 · subst h1;exact ⟨rfl,rfl⟩
 by_cases h2:kd=2
 · subst h2;exact ⟨rfl,rfl⟩
 by_cases h3:kd=3
 · subst h3;exact ⟨rfl,rfl⟩
 by_cases h4:kd=4
 · subst h4;exact ⟨rfl,rfl⟩
 by_cases h5:kd=5
 · subst h5;exact fix5 f nm
 by_cases h6:kd=6
 · subst h6;exact fix6 f nm
 by_cases h7:kd=7
 · subst h7
   obtain ⟨a,b⟩:=fix7 hok f nm
   exact ⟨a.trans (by rw [←hv.eq];rfl),b⟩
 simp only [h1,h2,h3,h4,h5,h6,h7,if_false]
 obtain ⟨a,b⟩:=fix8 (v:=v) hF f nm
 refine ⟨a,b.trans ?_⟩
 unfold lookF
 simp only [h1,h2,h3,h4,h5,h6,h7,if_false]
 rfl
theorem lookF_rank {k j:K} (h:Lk.slot j∈lookF F k):rk j < rk k∨(k.kind=7∧j.kind=7):=by
 obtain ⟨kd,f,nm⟩:=k
 unfold lookF at h
 simp only at h
 by_cases h1:kd=1
 · subst h1;simp at h
 by_cases h2:kd=2
 · subst h2;simp at h
 by_cases h3:kd=3
 · subst h3;simp at h;subst h;exact .inl (by simp [rk])
 by_cases h4:kd=4
 · subst h4;simp at h;subst h;exact .inl (by simp [rk])
 by_cases h5:kd=5
 · subst h5
   simp at h
   rcases h with rfl | h
   · exact .inl (by simp [rk])
   · split at h
     · unfold qUsed at h
       obtain ⟨g,_,e⟩:=List.mem_map.1 h
       cases e;exact .inl (by simp [rk])
     · simp at h
 by_cases h6:kd=6
 · subst h6
   simp at h
   rcases h with rfl | h
   · exact .inl (by simp [rk])
   · split at h
     · split at h
       · simp at h
       · unfold qTypes at h
         obtain ⟨n,_,hn⟩:=List.mem_flatMap.1 h
         unfold qSaid at hn
         rcases List.mem_cons.1 hn with e | hn
         · cases e;exact .inl (by simp [rk])
         · split at hn
           · simp at hn;subst hn;exact .inl (by simp [rk])
           · simp at hn
     · simp at h
 by_cases h7:kd=7
 · subst h7
   replace h:Lk.slot j∈(Lk.slot ⟨6,f,nm⟩ :: (if (eqB (typeF F f nm) none_ || eqB (typeF F f nm) bad_)=true then [] else .slot ⟨3,f,nob⟩ :: (match exprF F f nm with | none => [] | some e=>qValues F f (namesX e [])))):=h
   rcases List.mem_cons.1 h with e | h
   · cases e;exact .inl (by simp [rk])
   · split at h
     · simp at h
     · rcases List.mem_cons.1 h with e | h
       · cases e;exact .inl (by simp [rk])
       · split at h
         · simp at h
         · unfold qValues at h
           obtain ⟨n,_,hn⟩:=List.mem_flatMap.1 h
           simp at hn
           rcases hn with rfl | rfl
           · exact .inl (by simp [rk])
           · exact .inr ⟨rfl,rfl⟩
 simp only [h1,h2,h3,h4,h5,h6,h7,if_false] at h
 have hrk:rk ⟨kd,f,nm⟩=6:=by unfold rk;simp [h1,h2,h3,h4,h5,h6,h7]
 refine .inl ?_
 rw [hrk]
 rcases List.mem_cons.1 h with e | h
 · cases e;simp [rk]
 · rcases List.mem_cons.1 h with e | h
   · cases e;simp [rk]
   · unfold qItems at h
     obtain ⟨i,_,hi⟩:=List.mem_flatMap.1 h
     unfold qWrong at hi
     split at hi
     · simp at hi;subst hi;simp [rk]
     · split at hi
       · simp at hi
       · rcases List.mem_cons.1 hi with e | hi
         · cases e;simp [rk]
         · split at hi
           · simp at hi
           · simp at hi;subst hi;simp [rk]
theorem look_value {f nm:ByteArray} {j:K} (h:Lk.slot j∈lookF F ⟨7,f,nm⟩) (hj:j.kind=7):∃ e,exprF F f nm=some e∧∃ n∈namesX e [],j=⟨7,findF F f n,n⟩:=by
 replace h:Lk.slot j∈(Lk.slot ⟨6,f,nm⟩ :: (if (eqB (typeF F f nm) none_ || eqB (typeF F f nm) bad_)=true then [] else .slot ⟨3,f,nob⟩ :: (match exprF F f nm with | none => [] | some e=>qValues F f (namesX e [])))):=h
 rcases List.mem_cons.1 h with e | h
 · cases e;simp at hj
 · split at h
   · simp at h
   · rcases List.mem_cons.1 h with e | h
     · cases e;simp at hj
     · split at h
       · simp at h
       · rename_i e he
         unfold qValues at h
         obtain ⟨n,hn,h2⟩:=List.mem_flatMap.1 h
         simp at h2
         rcases h2 with rfl | rfl
         · simp at hj
         · exact ⟨e,he,n,hn,rfl⟩
theorem reach_rank {a:K→V} (hq:∀ k,qs F a (wp k)=lookF F k) {k j:K} (h:Reach F a wp k j):rk j≤rk k:=by
 refine Reach.ind (P:=fun k j=>rk j≤rk k) ?_ ?_ h
 · exact fun k=>Nat.le_refl _
 · intro k j c h1 _ ih
   rw [hq] at h1
   rcases lookF_rank h1 with h2 | ⟨h2,h3⟩
   · omega
   · rw [rk7.2 h3] at ih;rw [rk7.2 h2];exact ih
theorem valD_reach {a:K→V} (hq:∀ k,qs F a (wp k)=lookF F k) {j c:K} (h:Reach F a wp j c):c.kind=7→∀ d x,j.kind=7→valD F d j.file j.name=some x→∃ y,valD F d c.file c.name=some y:=by
 refine Reach.ind (P:=fun j c=>c.kind=7→∀ d x,j.kind=7→valD F d j.file j.name=some x→∃ y,valD F d c.file c.name=some y) ?_ ?_ h
 · intro k _ d x _ hx;exact ⟨x,hx⟩
 · intro k j c h1 h2 ih hc d x hk hx
   have hr:=reach_rank hq h2
   rw [hq] at h1
   have hj:j.kind=7:=by
    rcases lookF_rank h1 with h3 | h3
    · rw [rk7.2 hk] at h3;rw [rk7.2 hc] at hr;omega
    · exact h3.2
   obtain ⟨kd,f,nm⟩:=k
   simp only at hk
   subst hk
   obtain ⟨e,he,n,hn,rfl⟩:=look_value h1 hj
   cases d with
   | zero=>simp [valD] at hx
   | succ d =>
    obtain ⟨y,hy⟩:=(valD_needs hx).1 e he n hn
    exact ih hc (d+1) y rfl (valD_up _ _ _ _ hy)
theorem ans_cyc (hv:ValsOf F v) (hq:∀ k,qs F (ansF F v) (wp k)=lookF F k) {k j:K} (h1:Lk.slot j∈qs F (ansF F v) (wp k)) (h2:Reach F (ansF F v) wp j k):ansF F v k = .s cyc_:=by
 have hr:=reach_rank hq h2
 rw [hq] at h1
 rcases lookF_rank h1 with h3 | ⟨h3,h4⟩
 · omega
 obtain ⟨kd,f,nm⟩:=k
 simp only at h3
 subst h3
 obtain ⟨e,he,n,hn,rfl⟩:=look_value h1 h4
 have hnone:∀ d,valD F d f nm=none:=by
  intro d
  induction d with
  | zero=>rfl
  | succ d ih =>
   cases hd:valD F (d+1) f nm with
   | none=>rfl
   | some x =>
    obtain ⟨y,hy⟩:=(valD_needs hd).1 e he n hn
    obtain ⟨z,hz⟩:=valD_reach hq h2 rfl d y rfl hy
    rw [ih] at hz;cases hz
 exact congrArg V.s (hv.nn f nm hnone)
theorem ans_spec (hv:ValsOf F v) (hF:FaultOk F):Spec wp (.s cyc_) F (ansF F v) :=
 ⟨fun k=>(ans_fix hv hF k).1,fun _ _ h1 h2=>ans_cyc hv (fun k=>(ans_fix hv hF k).2) h1 h2,fun k j h=>lookF_rank (by rw [←(ans_fix hv hF k).2];exact h)⟩
end
theorem flatMap_le {α β:Type} {g:α→List β} {c:Nat}:∀ (l:List α),(∀ x∈l,(g x).length≤c)→(l.flatMap g).length≤l.length * c
 | [],_=>by simp
 | x :: l,h=>by
  rw [List.flatMap_cons,List.length_append,List.length_cons,Nat.add_mul]
  have h1:=h x (by simp)
  have h2:=flatMap_le l fun y hy=>h y (List.mem_cons_of_mem _ hy)
  omega
section
variable {F:Txt} {v:ByteArray→ByteArray→ByteArray} {fs:List ByteArray}
structure FOk (F:Txt) (fs:List ByteArray):Prop where
 dom:∀ f x,F f=some x→f∈fs∧x.size≤400
 len:fs.length≤6
 sz:∀ f∈fs,f.size≤400
theorem FOk.txt (h:FOk F fs) (f:ByteArray):((F f).getD nob).size≤400:=by
 cases hf:F f with
 | none=>exact Nat.zero_le _
 | some x=>exact (h.dom f x hf).2
theorem tree_nob:(treeX (lexAll nob)).1 = []:=by kernel_rfl
theorem FOk.toks (h:FOk F fs) (f:ByteArray):(toksF F f).length≤401:=by
 have:=(lexWf _ (h.txt f)).1.le
 exact this
theorem FOk.item (h:FOk F fs) {f:ByteArray} {i:Itx} (hi:i∈(treeF F f).1):f∈fs:=by
 cases hf:F f with
 | none =>
  have e:treeF F f=treeX (lexAll nob):=by simp [treeF,toksF,hf]
  rw [e,tree_nob] at hi
  simp at hi
 | some x=>exact (h.dom f x hf).1
theorem FOk.its (h:FOk F fs) (f:ByteArray):(treeF F f).1.length≤401:=Nat.le_trans (treeX_ok (toksF F f)).2 (h.toks f)
theorem FOk.fault (h:FOk F fs) (w:World):FaultOk F:=fun f b hb=>treeX_fault (lexWf _ (h.txt f)).1 w b hb
def wordsF (F:Txt) (fs:List ByteArray):List ByteArray:=fs.flatMap fun f=>wordsT (toksF F f)
theorem FOk.words (h:FOk F fs):(wordsF F fs).length≤2406:=by
 have:=flatMap_le (g:=fun f=>wordsT (toksF F f)) (c:=401) fs fun f _=>by unfold wordsT;rw [List.length_map];exact h.toks f
 have h2:=h.len
 unfold wordsF
 omega
theorem FOk.wsz (h:FOk F fs) {n:ByteArray} (hn:n∈wordsF F fs):n.size≤400:=by
 obtain ⟨f,hf,h1⟩:=List.mem_flatMap.1 hn
 obtain ⟨t,ht,rfl⟩:=List.mem_map.1 h1
 obtain ⟨i,hi⟩:=List.getElem?_of_mem ht
 exact (tok_szs (h.txt f) hi).1
theorem FOk.word (h:FOk F fs) {f:ByteArray} {i:Itx} (hi:i∈(treeF F f).1) {n:ByteArray} (hn:n∈wordsT (toksF F f)):n∈wordsF F fs:=List.mem_flatMap.2 ⟨f,h.item hi,hn⟩
theorem mem_uses {g:ByteArray}:∀ (its:List Itx) (acc:List ByteArray),g∈usesX its acc→g∈acc∨∃ i∈its,i.name=g
 | [],acc,h => .inl h
 | i :: r,acc,h=>by
  unfold usesX at h
  split at h
  · rcases mem_uses r _ h with h1 | ⟨j,h1,h2⟩
    · rcases List.mem_append.1 h1 with h1 | h1
      · exact .inl h1
      · simp at h1;exact .inr ⟨i,by simp,h1.symm⟩
    · exact .inr ⟨j,by simp [h1],h2⟩
  · rcases mem_uses r _ h with h1 | ⟨j,h1,h2⟩
    · exact .inl h1
    · exact .inr ⟨j,by simp [h1],h2⟩
theorem uses_le:∀ (its:List Itx) (acc:List ByteArray),(usesX its acc).length≤acc.length+its.length
 | [],acc=>by simp [usesX]
 | i :: r,acc=>by
  unfold usesX
  split
  · have:=uses_le r (acc ++ [i.name]);simp at this ⊢;omega
  · have:=uses_le r acc;simp;omega
theorem FOk.exp (h:FOk F fs) {g nm:ByteArray} (hm:memB (expF F g) nm=true):g∈fs:=by
 cases ht:(treeF F g).1 with
 | nil =>
  have:expF F g = []:=by simp [expF,ht,expX,pubsX,Lib.compact,Lib.compactUpTo]
  rw [this] at hm
  simp [memB] at hm
 | cons i l=>exact h.item (i:=i) (by rw [ht];simp)
theorem FOk.used (h:FOk F fs) (nm:ByteArray):∀ (gs:List ByteArray) (found:ByteArray),usedF F nm gs found=found∨usedF F nm gs found=two_∨usedF F nm gs found∈fs
 | [],found => .inl rfl
 | g :: gs,found=>by
  unfold usedF
  split
  · rename_i hm
    rcases h.used nm gs (if eqB found none_ then g else two_) with h1 | h1
    · rw [h1]
      split
      · exact .inr (.inr (h.exp hm))
      · exact .inr (.inl rfl)
    · exact .inr h1
  · exact h.used nm gs found
theorem FOk.find (h:FOk F fs) (f nm:ByteArray):findF F f nm=f∨findF F f nm=none_∨findF F f nm=two_∨findF F f nm∈fs:=by
 unfold findF
 split
 · rcases h.used nm (usesX (treeF F f).1 []) none_ with h1 | h1
   · exact .inr (.inl h1)
   · exact .inr (.inr h1)
 · exact .inl rfl
 · exact .inr (.inr (.inl rfl))
theorem FOk.names (h:FOk F fs) {f:ByteArray} {i:Itx} (hi:i∈(treeF F f).1) {e:Ex} (he:i.ex=some e):(namesX e []).length≤401∧∀ n∈namesX e [],n∈wordsF F fs:=by
 have hk:=(treeX_ok (toksF F f)).1 i hi
 have h0:i.kind≠0:=fun h0=>by rw [hk.use h0] at he;cases he
 obtain ⟨_,_,e',he',hs,hw⟩:=hk.let' h0
 rw [he] at he'
 cases he'
 refine ⟨?_,fun n hn => ?_⟩
 · have h1:=names_len e []
   have h2:=h.toks f
   simp at h1
   omega
 · rcases (mem_names n e []).1 hn with h1 | h1
   · simp at h1
   · exact h.word hi (hw n h1).1
def uFiles (fs:List ByteArray) (f0:ByteArray):List ByteArray:=f0 :: none_ :: two_ :: fs
def uniF (F:Txt) (fs:List ByteArray) (f0 n0:ByteArray):List K :=
 ([5,6,7]:List Nat).flatMap (fun d=>(uFiles fs f0).flatMap fun f=>(n0 :: wordsF F fs).map fun n=>⟨d,f,n⟩)
 ++ ([1,2,3,4,8]:List Nat).flatMap (fun d=>(uFiles fs f0 ++ wordsF F fs).map fun f=>⟨d,f,nob⟩)
theorem mem_uniF {f0 n0:ByteArray} {k:K}:k∈uniF F fs f0 n0↔(k.kind∈([5,6,7]:List Nat)∧k.file∈uFiles fs f0∧k.name∈n0 :: wordsF F fs)∨(k.kind∈([1,2,3,4,8]:List Nat)∧k.file∈uFiles fs f0 ++ wordsF F fs∧k.name=nob):=by
 obtain ⟨kd,f,n⟩:=k
 unfold uniF
 rw [List.mem_append,List.mem_flatMap,List.mem_flatMap]
 constructor
 · rintro (⟨d,hd,h⟩ | ⟨d,hd,h⟩)
   · obtain ⟨g,hg,h⟩:=List.mem_flatMap.1 h
     obtain ⟨m,hm,h⟩:=List.mem_map.1 h
     cases h
     exact .inl ⟨hd,hg,hm⟩
   · obtain ⟨g,hg,h⟩:=List.mem_map.1 h
     cases h
     exact .inr ⟨hd,hg,rfl⟩
 · rintro (⟨h1,h2,h3⟩ | ⟨h1,h2,h3⟩)
   · exact .inl ⟨kd,h1,List.mem_flatMap.2 ⟨f,h2,List.mem_map.2 ⟨n,h3,rfl⟩⟩⟩
   · simp only at h3
     subst h3
     exact .inr ⟨kd,h1,List.mem_map.2 ⟨f,h2,rfl⟩⟩
theorem uni_len (h:FOk F fs) (f0 n0:ByteArray):(uniF F fs f0 n0).length≤77064:=by
 have h1:=h.words
 have h2:=h.len
 have a1:=flatMap_le (g:=fun d=>(uFiles fs f0).flatMap fun f=>(n0 :: wordsF F fs).map fun n=>(⟨d,f,n⟩:K)) (c:=9 * 2407) ([5,6,7]:List Nat) fun d _=>by
  have b1:=flatMap_le (g:=fun f=>(n0 :: wordsF F fs).map fun n=>(⟨d,f,n⟩:K)) (c:=2407) (uFiles fs f0) fun f _=>by simp;omega
  refine Nat.le_trans b1 (Nat.mul_le_mul_right _ ?_)
  simp [uFiles];omega
 have a2:=flatMap_le (g:=fun d=>(uFiles fs f0 ++ wordsF F fs).map fun f=>(⟨d,f,nob⟩:K)) (c:=2415) ([1,2,3,4,8]:List Nat) fun d _=>by
  simp [uFiles];omega
 unfold uniF
 rw [List.length_append]
 simp only [List.length_cons,List.length_nil] at a1 a2
 omega
theorem uFiles_find (h:FOk F fs) {f0 f:ByteArray} (hf:f∈uFiles fs f0) (nm:ByteArray):findF F f nm∈uFiles fs f0:=by
 rcases h.find f nm with h1 | h1 | h1 | h1
 · rw [h1];exact hf
 · rw [h1];simp [uFiles]
 · rw [h1];simp [uFiles]
 · simp [uFiles,h1]
theorem uni_look (h:FOk F fs) {f0 n0:ByteArray} {k j:K} (hk:k∈uniF F fs f0 n0) (hj:Lk.slot j∈lookF F k):j∈uniF F fs f0 n0:=by
 have hfile:∀ d,d∈([1,2,3,4,8]:List Nat)→∀ f,f∈uFiles fs f0 ++ wordsF F fs→(⟨d,f,nob⟩:K)∈uniF F fs f0 n0:=fun d hd f hf=>mem_uniF.2 (.inr ⟨hd,hf,rfl⟩)
 have hname:∀ d,d∈([5,6,7]:List Nat)→∀ f,f∈uFiles fs f0→∀ n,n∈n0 :: wordsF F fs→(⟨d,f,n⟩:K)∈uniF F fs f0 n0:=fun d hd f hf n hn=>mem_uniF.2 (.inl ⟨hd,hf,hn⟩)
 have hul:∀ f,f∈uFiles fs f0→f∈uFiles fs f0 ++ wordsF F fs:=fun f hf=>List.mem_append_left _ hf
 have hfs:∀ f,f∈fs→f∈uFiles fs f0:=fun f hf=>by simp [uFiles,hf]
 obtain ⟨kd,f,n⟩:=k
 rcases mem_uniF.1 hk with ⟨h1,h2,h3⟩ | ⟨h1,h2,h3⟩
 · simp only [List.mem_cons,List.not_mem_nil,or_false] at h1
   rcases h1 with rfl | rfl | rfl
   · replace hj:Lk.slot j∈(Lk.slot ⟨3,f,nob⟩ :: (match namedX n (treeF F f).1 with | []=>qUsed (usesX (treeF F f).1 []) | _ => [])):=hj
     rcases List.mem_cons.1 hj with e | hj
     · cases e;exact hfile 3 (by simp) f (hul f h2)
     · split at hj
       · unfold qUsed at hj
         obtain ⟨g,hg,e⟩:=List.mem_map.1 hj
         cases e
         refine hfile 4 (by simp) g (List.mem_append_right _ ?_)
         rcases mem_uses _ _ hg with h4 | ⟨i,hi,rfl⟩
         · simp at h4
         · exact h.word hi ((treeX_ok (toksF F f)).1 i hi).name.2
       · simp at hj
   · replace hj:Lk.slot j∈(Lk.slot ⟨3,f,nob⟩ :: (match namedX n (treeF F f).1 with | [i]=>(match i.ex with | none => [] | some e=>qTypes F f (namesX e [])) | _ => [])):=hj
     rcases List.mem_cons.1 hj with e | hj
     · cases e;exact hfile 3 (by simp) f (hul f h2)
     · split at hj
       · rename_i i hi
         have hit:i∈(treeF F f).1:=(mem_named (nm:=n) (by rw [hi];simp)).1
         split at hj
         · simp at hj
         · rename_i e he
           unfold qTypes at hj
           obtain ⟨m,hm,hj⟩:=List.mem_flatMap.1 hj
           have hmw:=(h.names hit he).2 m hm
           unfold qSaid at hj
           rcases List.mem_cons.1 hj with e1 | hj
           · cases e1
             exact hname 5 (by simp) f h2 m (List.mem_cons_of_mem _ hmw)
           · split at hj
             · simp at hj
               subst hj
               exact hfile 3 (by simp) _ (hul _ (uFiles_find h h2 m))
             · simp at hj
       · simp at hj
   · replace hj:Lk.slot j∈(Lk.slot ⟨6,f,n⟩ :: (if (eqB (typeF F f n) none_ || eqB (typeF F f n) bad_)=true then [] else .slot ⟨3,f,nob⟩ :: (match exprF F f n with | none => [] | some e=>qValues F f (namesX e [])))):=hj
     rcases List.mem_cons.1 hj with e | hj
     · cases e;exact hname 6 (by simp) f h2 n h3
     · split at hj
       · simp at hj
       · rcases List.mem_cons.1 hj with e | hj
         · cases e;exact hfile 3 (by simp) f (hul f h2)
         · split at hj
           · simp at hj
           · rename_i e he
             obtain ⟨_,i,hi1,hi2,_⟩:=expr_nums he
             have hit:i∈(treeF F f).1:=(mem_named (nm:=n) (by rw [hi1];simp)).1
             unfold qValues at hj
             obtain ⟨m,hm,hj⟩:=List.mem_flatMap.1 hj
             have hmw:=(h.names hit hi2).2 m hm
             simp at hj
             rcases hj with rfl | rfl
             · exact hname 5 (by simp) f h2 m (List.mem_cons_of_mem _ hmw)
             · exact hname 7 (by simp) _ (uFiles_find h h2 m) m (List.mem_cons_of_mem _ hmw)
 · simp only at h3
   subst h3
   simp only [List.mem_cons,List.not_mem_nil,or_false] at h1
   rcases h1 with rfl | rfl | rfl | rfl | rfl
   · simp [lookF] at hj
   · simp [lookF] at hj
   · simp [lookF] at hj
     subst hj
     exact hfile 2 (by simp) f h2
   · simp [lookF] at hj
     subst hj
     exact hfile 3 (by simp) f h2
   · replace hj:Lk.slot j∈(Lk.slot ⟨2,f,nob⟩ :: .slot ⟨3,f,nob⟩ :: qItems F f (treeF F f).1 (treeF F f).1):=hj
     rcases List.mem_cons.1 hj with e | hj
     · cases e;exact hfile 2 (by simp) f h2
     · rcases List.mem_cons.1 hj with e | hj
       · cases e;exact hfile 3 (by simp) f h2
       · unfold qItems at hj
         obtain ⟨i,hi,hj⟩:=List.mem_flatMap.1 hj
         have hnw:=h.word hi ((treeX_ok (toksF F f)).1 i hi).name.2
         have hff:=hfs f (h.item hi)
         unfold qWrong at hj
         split at hj
         · simp at hj
           subst hj
           exact hfile 1 (by simp) _ (List.mem_append_right _ hnw)
         · split at hj
           · simp at hj
           · rcases List.mem_cons.1 hj with e | hj
             · cases e;exact hname 6 (by simp) f hff _ (List.mem_cons_of_mem _ hnw)
             · split at hj
               · simp at hj
               · simp at hj
                 subst hj
                 exact hname 7 (by simp) f hff _ (List.mem_cons_of_mem _ hnw)
theorem types_le (f:ByteArray) (ns:List ByteArray):(qTypes F f ns).length≤ns.length * 2:=flatMap_le ns fun n _=>by
 unfold qSaid;split <;> simp
theorem values_le (f:ByteArray) (ns:List ByteArray):(qValues F f ns).length≤ns.length * 2:=flatMap_le ns fun n _=>by simp
theorem items_le (f:ByteArray) (its l:List Itx):(qItems F f its l).length≤l.length * 2:=flatMap_le l fun i _=>by
 unfold qWrong
 split
 · simp
 · split
   · simp
   · split <;> simp
theorem look_len (h:FOk F fs) (k:K):(lookF F k).length+2≤1024:=by
 obtain ⟨kd,f,n⟩:=k
 unfold lookF
 split
 · simp
 split
 · simp
 split
 · simp
 split
 · simp
 split
 · rw [List.length_cons]
   split
   · unfold qUsed
     rw [List.length_map]
     have:=uses_le (treeF F f).1 []
     have:=h.its f
     simp at *
     omega
   · simp
 split
 · rw [List.length_cons]
   split
   · rename_i i hi
     have hit:i∈(treeF F f).1:=(mem_named (nm:=n) (by rw [show namedX n (treeF F f).1 = [i] from hi];simp)).1
     split
     · simp
     · rename_i e he
       have h1:=(h.names hit he).1
       have h2:=types_le (F:=F) f (namesX e [])
       simp only at h2 ⊢
       omega
   · simp
 split
 · rw [List.length_cons]
   split
   · simp
   · rw [List.length_cons]
     split
     · simp
     · rename_i e he
       obtain ⟨_,i,hi1,hi2,_⟩:=expr_nums he
       have hit:i∈(treeF F f).1:=(mem_named (nm:=n) (by rw [hi1];simp)).1
       have h1:=(h.names hit hi2).1
       have h2:=values_le (F:=F) f (namesX e [])
       simp only at h2 ⊢
       omega
 · rw [List.length_cons,List.length_cons]
   have h1:=items_le (F:=F) f (treeF F f).1 (treeF F f).1
   have h2:=h.its f
   simp only at h1 ⊢
   omega
theorem uni_ok (h:FOk F fs) (w:World) (hv:ValsOf F v) {f0 n0:ByteArray} (hf0:f0.size≤BIG) (hn0:n0.size≤BIG):Uni wp F (ansF F v) (uniF F fs f0 n0) 1024:=by
 have hq:∀ k,qs F (ansF F v) (wp k)=lookF F k:=fun k=>(ans_fix hv (h.fault w) k).2
 have hF:∀ f,f∈uFiles fs f0→f.size≤BIG:=fun f hf=>by
  simp only [uFiles,List.mem_cons] at hf
  rcases hf with rfl | rfl | rfl | hf
  · exact hf0
  · decide
  · decide
  · exact Nat.le_trans (h.sz f hf) (by decide)
 have hW:∀ n,n∈wordsF F fs→n.size≤BIG:=fun n hn=>Nat.le_trans (h.wsz hn) (by decide)
 have hsz:∀ k∈uniF F fs f0 n0,k.file.size≤BIG∧k.name.size≤BIG:=fun k hk=>by
  rcases mem_uniF.1 hk with ⟨_,h2,h3⟩ | ⟨_,h2,h3⟩
  · refine ⟨hF _ h2,?_⟩
    rcases List.mem_cons.1 h3 with h4 | h4
    · rw [h4];exact hn0
    · exact hW _ h4
  · refine ⟨?_,by rw [h3];decide⟩
    rcases List.mem_append.1 h2 with h4 | h4
    · exact hF _ h4
    · exact hW _ h4
 refine ⟨fun k hk j hj=>uni_look h hk (by rw [←hq];exact hj),fun k _=>by rw [hq];exact look_len h k,by decide,hsz,fun k hk f hf => ?_⟩
 rw [hq] at hf
 have h1:=(hsz k hk).1
 obtain ⟨kd,g,n⟩:=k
 rcases mem_uniF.1 hk with ⟨h2,_⟩ | ⟨h2,_⟩
 · exfalso
   simp only [List.mem_cons,List.not_mem_nil,or_false] at h2
   rcases h2 with rfl | rfl | rfl
   · replace hf:Lk.src f∈(Lk.slot ⟨3,g,nob⟩ :: (match namedX n (treeF F g).1 with | []=>qUsed (usesX (treeF F g).1 []) | _ => [])):=hf
     rcases List.mem_cons.1 hf with e | hf
     · cases e
     · split at hf
       · obtain ⟨_,_,e⟩:=List.mem_map.1 hf;cases e
       · simp at hf
   · replace hf:Lk.src f∈(Lk.slot ⟨3,g,nob⟩ :: (match namedX n (treeF F g).1 with | [i]=>(match i.ex with | none => [] | some e=>qTypes F g (namesX e [])) | _ => [])):=hf
     rcases List.mem_cons.1 hf with e | hf
     · cases e
     · split at hf
       · split at hf
         · simp at hf
         · obtain ⟨m,_,hm⟩:=List.mem_flatMap.1 hf
           unfold qSaid at hm
           rcases List.mem_cons.1 hm with e | hm
           · cases e
           · split at hm
             · simp at hm
             · simp at hm
       · simp at hf
   · replace hf:Lk.src f∈(Lk.slot ⟨6,g,n⟩ :: (if (eqB (typeF F g n) none_ || eqB (typeF F g n) bad_)=true then [] else .slot ⟨3,g,nob⟩ :: (match exprF F g n with | none => [] | some e=>qValues F g (namesX e [])))):=hf
     rcases List.mem_cons.1 hf with e | hf
     · cases e
     · split at hf
       · simp at hf
       · rcases List.mem_cons.1 hf with e | hf
         · cases e
         · split at hf
           · simp at hf
           · obtain ⟨m,_,hm⟩:=List.mem_flatMap.1 hf
             simp at hm
 · simp only [List.mem_cons,List.not_mem_nil,or_false] at h2
   rcases h2 with rfl | rfl | rfl | rfl | rfl
   · simp [lookF] at hf;rw [hf];exact h1
   · simp [lookF] at hf;rw [hf];exact h1
   · simp [lookF] at hf
   · simp [lookF] at hf
   · exfalso
     replace hf:Lk.src f∈(Lk.slot ⟨2,g,nob⟩ :: .slot ⟨3,g,nob⟩ :: qItems F g (treeF F g).1 (treeF F g).1):=hf
     rcases List.mem_cons.1 hf with e | hf
     · cases e
     · rcases List.mem_cons.1 hf with e | hf
       · cases e
       · obtain ⟨i,_,hi⟩:=List.mem_flatMap.1 hf
         unfold qWrong at hi
         split at hi
         · simp at hi
         · split at hi
           · simp at hi
           · rcases List.mem_cons.1 hi with e | hi
             · cases e
             · split at hi
               · simp at hi
               · simp at hi
end
def knownT0:ByteArray:=⟨#[112,117,98,32,108,101,116,32,113,58,105,110,116,32,61,32,50,32,42,32,51,32,43,32,119,59,32,108,101,116,32,119,58,105,110,116,32,61,32,52,59]⟩
def zF:ByteArray:=⟨#[122]⟩
def qN:ByteArray:=⟨#[113]⟩
def knownF:Txt:=fun g=>if g=zF then some knownT0 else none
theorem known_val:valD knownF 3 zF qN=some ⟨#[49,48]⟩:=by kernel_rfl
theorem known_ok:FOk knownF [zF]:=by
 refine ⟨fun f x h => ?_,by decide,fun f hf => ?_⟩
 · unfold knownF at h
   split at h
   · rename_i he
     cases h
     exact ⟨by simp [he],by decide⟩
   · cases h
 · simp at hf;subst hf;decide
theorem known_ans {v:ByteArray→ByteArray→ByteArray} (hv:ValsOf knownF v):ansF knownF v ⟨7,zF,qN⟩ = .s ⟨#[49,48]⟩:=congrArg V.s (hv.sm 3 zF qN _ known_val)
end Go.Proofs.YthibodlojlkppaaGreatDoor
namespace Go.Proofs.YthibodlojlkppaaGreatDoor
variable [DecidableEq K] [LawfulBEq Lk]
section
variable {V:Type}
def SzK (k:K):Prop:=(k.file.size≤BIG∧k.name.size≤BIG)∧k.kind≤8
def GetsOk:Prog V→Prop
 | ⟨.inl _,_⟩=>True
 | ⟨.inr (.inl _),_⟩=>True
 | ⟨.inr (.inr (.inl _)),c⟩ => ∀ o,GetsOk (c o)
 | ⟨.inr (.inr (.inr k)),c⟩=>k.kind≤8∧∀ v,GetsOk (c v)
def BegOk (st:St V):Prop:=st.began.length≤BIG∧∀ k∈st.began,SzK k
structure KeepsBeg (E:Eng V):Prop where
 beg:∀ j st out st',E j st=some (out,st')→SzK j→BegOk st→BegOk st'
theorem beg_find {st:St V} {k:K} (h:BegOk st):BegOk (st.find k):=by unfold St.find;split <;> exact h
theorem beg_source {st:St V} {f:ByteArray} (h:BegOk st):BegOk (st.source f):=by unfold St.source;split <;> exact h
theorem beg_use {st:St V} {k:K} (h:BegOk st):BegOk (st.use k):=by unfold St.use;split <;> exact h
theorem beg_leave {st:St V} {k:K} (h:BegOk st):BegOk (st.leave k):=by unfold St.leave;split <;> exact h
theorem beg_answer {st st':St V} {k:K} {v:V} (ha:answer st k v=some st') (h:BegOk st):BegOk st':=by
 unfold answer at ha
 split at ha
 · cases ha
 · split at ha
   · cases ha;exact beg_use h
   · cases ha
theorem fetC_beg {E:Eng V} (hE:KeepsBeg E) {nc:Bool} {j:K} {lk:List Lk} {st:St V} {out:Out (V × List Lk)} {st':St V} (h:fetC E nc j lk st=some (out,st')) (hj:j.kind≤8) (hb:BegOk st):BegOk st':=by
 have hz:SzK j:=⟨fetC_sz h,hj⟩
 unfold fetC at h
 split at h
 · cases h
 split at h
 · obtain ⟨v,_,e⟩:=Option.map_eq_some_iff.1 h
   cases e
   exact beg_find hb
 · split at h
   · rename_i st2 he
     split at h
     · obtain ⟨v,_,e⟩:=Option.map_eq_some_iff.1 h
       cases e
       exact hE.beg _ _ _ _ he hz (beg_find hb)
     · cases h
   · rename_i c st2 he
     split at h
     · cases h
     · cases h
       exact hE.beg _ _ _ _ he hz (beg_find hb)
   · cases h
theorem run_beg {E:Eng V} (hE:KeepsBeg E) {nc:Bool}:∀ (p:Prog V) (lk:List Lk) (st:St V) (out:Out (V × List Lk)) (st':St V),GetsOk p→run E nc p lk st=some (out,st')→BegOk st→BegOk st'
 | ⟨.inl v,_⟩,lk,st,out,st',_,h,hb=>by cases h;exact hb
 | ⟨.inr (.inl _),_⟩,lk,st,out,st',_,h,hb=>by cases h
 | ⟨.inr (.inr (.inl f)),c⟩,lk,st,out,st',hg,h,hb=>by
  simp only [run] at h
  split at h
  · exact run_beg hE _ _ _ _ _ (hg _) h (beg_source hb)
  · cases h
 | ⟨.inr (.inr (.inr j)),c⟩,lk,st,out,st',hg,h,hb=>by
  simp only [run] at h
  split at h
  · rename_i v lk' st2 he
    exact run_beg hE _ _ _ _ _ (hg.2 v) h (fetC_beg hE he hg.1 hb)
  · rename_i c' st2 he
    cases h
    exact fetC_beg hE he hg.1 hb
  · cases h
theorem workOut_beg {wp:K→Prog V} (hw:∀ k,GetsOk (wp k)) {E:Eng V} (hE:KeepsBeg E) {j:K} {st st':St V} {out:Out Unit} (h:workOut wp E j st=some (out,st')) (hj:SzK j) (hb:BegOk st):BegOk st':=by
 unfold workOut at h
 split at h
 · rename_i hlt
   have hb1:BegOk { st with began:=st.began ++ [j] }:=⟨by simp;omega,fun k hk=>by
    rcases List.mem_append.1 hk with h1 | h1
    · exact hb.2 k h1
    · simp at h1;rw [h1];exact hj⟩
   split at h
   · rename_i v lk st2 he
     obtain ⟨s,hs,e⟩:=Option.map_eq_some_iff.1 h
     cases e
     exact beg_answer hs (run_beg hE _ _ _ _ _ (hw j) he hb1)
   · rename_i c st2 he
     cases h
     exact run_beg hE _ _ _ _ _ (hw j) he hb1
   · cases h
 · cases h
theorem inner_beg {wp:K→Prog V} (hw:∀ k,GetsOk (wp k)) {E:Eng V} (hE:KeepsBeg E) {j:K} {st st':St V} {out:Out Unit} (h:inner wp E j st=some (out,st')) (hj:SzK j) (hb:BegOk st):BegOk st':=by
 unfold inner at h
 split at h
 · cases h
 · split at h
   · split at h
     · cases h
       exact beg_use hb
     · exact workOut_beg hw hE h hj hb
   · split at h
     · exact workOut_beg hw hE h hj hb
     · cases h
theorem settleM_beg {wp:K→Prog V} (hw:∀ k,GetsOk (wp k)) {lp:V} {E:Eng V} (hE:KeepsBeg E):KeepsBeg (settleM wp lp E):=⟨by
 intro j st out st' h hj hb
 unfold settleM at h
 split at h
 · cases h
 · rename_i m hm
   split at h
   · split at h
     · cases h
     · cases h;exact hb
   · have hb1:BegOk (st.put j { m with act:=true }):=hb
     split at h
     · cases h
     · rename_i st2 he
       cases h
       exact beg_leave (inner_beg hw hE he hj hb1)
     · rename_i c st2 he
       split at h
       · obtain ⟨s,hs,e⟩:=Option.map_eq_some_iff.1 h
         cases e
         exact beg_leave (beg_answer hs (inner_beg hw hE he hj hb1))
       · split at h
         · cases h
         · cases h
           exact beg_leave (inner_beg hw hE he hj hb1)⟩
theorem engM_beg {wp:K→Prog V} (hw:∀ k,GetsOk (wp k)) {lp:V}:∀ n,KeepsBeg (engM wp lp n)
 | 0=>⟨fun _ _ _ _ h=>(by cases h)⟩
 | n+1=>settleM_beg hw (engM_beg hw n)
end
end Go.Proofs.YthibodlojlkppaaGreatDoor
namespace Go.Proofs.YthibodlojlkppaaGreatDoor
open Go.RowKit
variable [DecidableEq K] [LawfulBEq Lk]
theorem gets_S {k:K} {c:ByteArray→Prog V} (hk:k.kind≤8) (h:∀ b,GetsOk (c b)):GetsOk (getS k c):=⟨hk,fun v=>by
 rcases v with l | ⟨l,b⟩ | l | b
 · trivial
 · trivial
 · trivial
 · exact h b⟩
theorem gets_T {f:ByteArray} {c:List Tok→Prog V} (h:∀ b,GetsOk (c b)):GetsOk (getT f c):=⟨by show 2≤8;omega,fun v=>by
 rcases v with l | ⟨l,b⟩ | l | b
 · exact h l
 · trivial
 · trivial
 · trivial⟩
theorem gets_R {f:ByteArray} {c:List Itx→Option Nat→Prog V} (h:∀ a b,GetsOk (c a b)):GetsOk (getR f c):=⟨by show 3≤8;omega,fun v=>by
 rcases v with l | ⟨l,b⟩ | l | b
 · trivial
 · exact h l b
 · trivial
 · trivial⟩
theorem gets_X {f:ByteArray} {c:List ByteArray→Prog V} (h:∀ b,GetsOk (c b)):GetsOk (getX f c):=⟨by show 4≤8;omega,fun v=>by
 rcases v with l | ⟨l,b⟩ | l | b
 · trivial
 · trivial
 · exact h l
 · trivial⟩
theorem gets_used (nm:ByteArray) {c:ByteArray→Prog V} (h:∀ b,GetsOk (c b)):∀ (fs:List ByteArray) (found:ByteArray),GetsOk (usedP nm c fs found)
 | [],found=>h found
 | f :: fs,found=>gets_X fun l=>by
  split
  · exact gets_used nm h fs _
  · exact gets_used nm h fs _
theorem gets_said (f nm:ByteArray) {c:ByteArray→Prog V} (h:∀ b,GetsOk (c b)):GetsOk (saidP f nm c):=gets_S (by show 5≤8;omega) fun g=>by
 split
 · refine gets_R fun its _ => ?_
   split
   · exact h _
   · exact h _
 · exact h _
theorem gets_types (f:ByteArray) {c:(ByteArray→ByteArray)→Prog V} (h:∀ b,GetsOk (c b)):∀ (ns:List ByteArray) (M:ByteArray→ByteArray),GetsOk (typesP f c ns M)
 | [],M=>h M
 | n :: ns,M=>gets_said f n fun t=>gets_types f h ns _
theorem gets_values (f:ByteArray) {c:ByteArray→(ByteArray→Int)→Prog V} (h:∀ a b,GetsOk (c a b)):∀ (ns:List ByteArray) (fault:ByteArray) (M:ByteArray→Int),GetsOk (valuesP f c ns fault M)
 | [],fault,M=>h fault M
 | n :: ns,fault,M=>gets_S (by show 5≤8;omega) fun g=>gets_S (by show 7≤8;omega) fun v=>by
  split
  · exact gets_values f h ns _ _
  · trivial
theorem gets_wrong (f:ByteArray) (its:List Itx) (i:Itx) {c:ByteArray→Prog V} (h:∀ b,GetsOk (c b)):GetsOk (wrongP f its i c):=by
 unfold wrongP
 split
 · exact gets_S (by show 1≤8;omega) fun v=>h _
 · split
   · exact h _
   · refine gets_S (by show 6≤8;omega) fun t => ?_
     split
     · exact h _
     · exact gets_S (by show 7≤8;omega) fun v=>h _
theorem gets_tell (toks:List Tok) (num:Nat) (word out:ByteArray) {c:ByteArray→Prog V} (h:∀ b,GetsOk (c b)):GetsOk (tellP toks num word out c):=by
 unfold tellP
 split
 · exact h _
 · split
   · trivial
   · exact h _
theorem gets_items (f:ByteArray) (toks:List Tok) (its:List Itx) {c:ByteArray→Prog V} (h:∀ b,GetsOk (c b)):∀ (l:List Itx) (out:ByteArray),GetsOk (itemsP f toks its c l out)
 | [],out=>h out
 | i :: r,out=>gets_wrong f its i fun w=>gets_tell toks i.num w out fun o=>gets_items f toks its h r o
theorem wp_gets (k:K):GetsOk (wp k):=by
 unfold wp
 split
 · exact fun _=>trivial
 split
 · exact fun _=>trivial
 split
 · exact gets_T fun _=>trivial
 split
 · exact gets_R fun _ _=>trivial
 split
 · refine gets_R fun its _ => ?_
   split
   · refine gets_used _ ?_ _ _
     exact fun _=>trivial
   · trivial
   · trivial
 split
 · refine gets_R fun its _ => ?_
   split
   · split
     · trivial
     · refine gets_types _ ?_ _ _
       exact fun _=>trivial
   · trivial
 split
 · refine gets_S (by show 6≤8;omega) fun kd => ?_
   split
   · trivial
   · refine gets_R fun its _ => ?_
     split
     · trivial
     · split
       · trivial
       · refine gets_values _ ?_ _ _ _
         exact fun _ _=>trivial
 · refine gets_T fun toks=>gets_R fun its fl=>gets_items _ _ _ (fun out => ?_) _ _
   split
   · trivial
   · refine gets_tell _ _ _ _ ?_
     exact fun _=>trivial
end Go.Proofs.YthibodlojlkppaaGreatDoor

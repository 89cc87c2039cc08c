/-
  Plain facts of a text's items: how many, how long, which words. The program's Named. A tree as a local of a work. slices.Contains of texts. Numbers: those that stand in a text, those that are worked out.
-/
import Derived.Test.YthibodlojlkppaaGreatDoorB07
import Derived.Test.YthibodlojlkppaaGreatDoorB08
import Derived.Test.YthibodlojlkppaaGreatDoorB10
import Derived.Test.YthibodlojlkppaaGreatDoorB20
import Derived.Lib.ItoaNum
set_option linter.unusedVariables false
set_option linter.unusedSectionVars false
set_option linter.unusedSimpArgs false
set_option maxRecDepth 100000
set_option maxHeartbeats 40000000

namespace Go.Proofs.YthibodlojlkppaaGreatDoor
open Go.RowKit
variable [DecidableEq K] [LawfulBEq Lk]
theorem eqB_is {a b:ByteArray}:eqB a b=true↔a=b:=toList_inj
theorem eqB_no {a b:ByteArray} (h:a≠b):eqB a b=false:=by
 cases he:eqB a b with
 | false=>rfl
 | true=>exact absurd (eqB_is.1 he) h
theorem memB_iff {l:List ByteArray} {x:ByteArray}:memB l x=true↔x∈l:=by
 unfold memB
 rw [List.any_eq_true]
 constructor
 · rintro ⟨y,h1,h2⟩;rw [←eqB_is.1 h2];exact h1
 · intro h;exact ⟨x,h,eqB_is.2 rfl⟩
def sizeX:Ex→Nat
 | ⟨.inl _,_⟩=>1
 | ⟨.inr (.inl _),_⟩=>1
 | ⟨.inr (.inr (.inl _)),_⟩=>1
 | ⟨.inr (.inr (.inr (.inl _))),s'⟩=>sizeX (s' false)+sizeX (s' true)+1
 | ⟨.inr (.inr (.inr (.inr _))),s'⟩=>sizeX (s' none)+sizeX (s' (some false))+sizeX (s' (some true))+1
def inX (n:ByteArray):Ex→Prop
 | ⟨.inl _,_⟩=>False
 | ⟨.inr (.inl _),_⟩=>False
 | ⟨.inr (.inr (.inl t)),_⟩=>n=t
 | ⟨.inr (.inr (.inr (.inl _))),s'⟩=>inX n (s' false)∨inX n (s' true)
 | ⟨.inr (.inr (.inr (.inr _))),s'⟩=>inX n (s' none)∨inX n (s' (some false))∨inX n (s' (some true))
theorem mem_names (n:ByteArray):∀ (e:Ex) (l:List ByteArray),n∈namesX e l↔n∈l∨inX n e
 | ⟨.inl _,_⟩,l=>by simp [namesX,inX,two,three]
 | ⟨.inr (.inl _),_⟩,l=>by simp [namesX,inX,two,three]
 | ⟨.inr (.inr (.inl t)),_⟩,l=>by
  simp only [namesX,inX,two,three]
  split
  · constructor
    · exact .inl
    · rintro (h | rfl)
      · exact h
      · exact memB_iff.1 (by assumption)
  · simp
 | ⟨.inr (.inr (.inr (.inl _))),s'⟩,l=>by simp only [namesX,inX,mem_names n (s' true),mem_names n (s' false),or_assoc,two,three]
 | ⟨.inr (.inr (.inr (.inr _))),s'⟩,l=>by simp only [namesX,inX,mem_names n (s' (some true)),mem_names n (s' (some false)),mem_names n (s' none),or_assoc,two,three]
theorem names_len:∀ (e:Ex) (l:List ByteArray),(namesX e l).length≤l.length+sizeX e
 | ⟨.inl _,_⟩,l=>by simp [namesX,two,three]
 | ⟨.inr (.inl _),_⟩,l=>by simp [namesX,two,three]
 | ⟨.inr (.inr (.inl t)),_⟩,l=>by simp only [namesX,sizeX,two,three];split <;> simp
 | ⟨.inr (.inr (.inr (.inl _))),s'⟩,l=>by
  have h1:=names_len (s' false) l
  have h2:=names_len (s' true) (namesX (s' false) l)
  simp only [namesX,sizeX,two,three];omega
 | ⟨.inr (.inr (.inr (.inr _))),s'⟩,l=>by
  have h1:=names_len (s' none) l
  have h2:=names_len (s' (some false)) (namesX (s' none) l)
  have h3:=names_len (s' (some true)) (namesX (s' (some false)) (namesX (s' none) l))
  simp only [namesX,sizeX,two,three];omega
def wordsT (toks:List Tok):List ByteArray:=toks.map Tok.text
theorem tx_word {toks:List Tok} {a:Nat} (h:tx toks a≠⟨#[]⟩):tx toks a∈wordsT toks∧a < toks.length:=by
 unfold tx at h ⊢
 cases ht:toks[a]? with
 | none=>rw [ht] at h;exact absurd rfl h
 | some t =>
  obtain ⟨hl,he⟩:=List.getElem?_eq_some_iff.1 ht
  refine ⟨?_,hl⟩
  simp only [Option.map_some,Option.getD_some]
  exact List.mem_map.2 ⟨t,List.mem_of_getElem? ht,rfl⟩
theorem isT_ltX {toks:List Tok} {a:Nat} {x:UInt8} {l:List UInt8} (h:isT toks a (x :: l)=true):a < toks.length:=(tx_word (fun e=>by rw [isT,e] at h;simp at h)).2
theorem nameB_neX {t:ByteArray} (h:nameB t=true):t≠⟨#[]⟩:=by rintro rfl;exact absurd h (by decide)
theorem leafX_ok {toks:List Tok} {a:Nat} {x:Ex} (h:leafX (tx toks a)=some x):a < toks.length∧sizeX x=1∧∀ n,inX n x→n∈wordsT toks∧nameB n=true:=by
 have hne:tx toks a≠⟨#[]⟩:=fun e=>by
  rw [e] at h
  have h1:numB ⟨#[]⟩=false:=by decide
  have h2:nameB ⟨#[]⟩=false:=by decide
  unfold leafX at h
  rw [if_neg (by simp),if_neg (by simp [h1]),if_neg (by simp [h2])] at h
  cases h
 obtain ⟨hw,hl⟩:=tx_word hne
 refine ⟨hl,?_⟩
 unfold leafX at h
 split at h
 · cases h;exact ⟨rfl,fun n hn=>hn.elim⟩
 · split at h
   · cases h;exact ⟨rfl,fun n hn=>hn.elim⟩
   · split at h
     · rename_i hn
       cases h
       exact ⟨rfl,fun n hn'=>by cases hn';exact ⟨hw,hn⟩⟩
     · cases h
structure XOk (toks:List Tok) (a b s:Nat) (acc:ByteArray→Prop) (x:Ex):Prop where
 ab:a≤b
 le:a≤toks.length→b≤toks.length
 size:sizeX x+a≤s+b
 words:∀ n,inX n x→acc n∨n∈wordsT toks∧nameB n=true
abbrev noA:ByteArray→Prop:=fun _=>False
theorem andX_some {p:PRX} {k:Nat→Ex→PRX} {b:Nat} {x:Ex} (h:andX p k=some (b,some x)):∃ c y,p=some (c,some y)∧k c y=some (b,some x):=by
 match p,h with
 | some (c,some y),h=>exact ⟨c,y,rfl,h⟩
theorem PX_ok (toks:List Tok):∀ (f tag nest a:Nat) (acc:Ex) (b:Nat) (x:Ex),PX toks f tag nest a acc=some (b,some x)→(tag < 4→XOk toks a b 0 noA x)∧(4≤tag→XOk toks a b (sizeX acc) (fun n=>inX n acc) x)
 | 0,_,_,_,_,_,_,h=>by simp [PX] at h
 | f+1,0,nest,a,acc,b,x,h=>by
  simp only [PX] at h
  obtain ⟨c,y,h1,h2⟩:=andX_some h
  have q1:=(PX_ok toks f 1 nest a _ c y h1).1 (by omega)
  refine ⟨fun _ => ?_,fun x=>by omega⟩
  split at h2
  · rename_i ht
    have hl:=isT_ltX ht
    obtain ⟨d,z,h3,h4⟩:=andX_some h2
    have q2:=(PX_ok toks f 1 nest (c+1) _ d z h3).1 (by omega)
    cases h4
    have:=q1.ab;have:=q2.ab;have:=q1.size;have:=q2.size
    refine ⟨by omega,fun _=>q2.le (by omega),by simp only [sizeX,two,three];omega,fun n hn => ?_⟩
    rcases hn with hn | hn
    · exact q1.words n hn
    · exact q2.words n hn
  · cases h2;exact q1
 | f+1,1,nest,a,acc,b,x,h=>by
  simp only [PX] at h
  obtain ⟨c,y,h1,h2⟩:=andX_some h
  have q1:=(PX_ok toks f 2 nest a _ c y h1).1 (by omega)
  have q2:=(PX_ok toks f 4 nest c _ b x h2).2 (by omega)
  have:=q1.ab;have:=q2.ab;have:=q1.size;have:=q2.size
  exact ⟨fun _=>⟨by omega,fun h=>q2.le (q1.le h),by omega,fun n hn=>(q2.words n hn).elim (q1.words n) .inr⟩,fun x=>by omega⟩
 | f+1,2,nest,a,acc,b,x,h=>by
  simp only [PX] at h
  obtain ⟨c,y,h1,h2⟩:=andX_some h
  have q1:=(PX_ok toks f 3 nest a _ c y h1).1 (by omega)
  have q2:=(PX_ok toks f 5 nest c _ b x h2).2 (by omega)
  have:=q1.ab;have:=q2.ab;have:=q1.size;have:=q2.size
  exact ⟨fun _=>⟨by omega,fun h=>q2.le (q1.le h),by omega,fun n hn=>(q2.words n hn).elim (q1.words n) .inr⟩,fun x=>by omega⟩
 | f+1,3,nest,a,acc,b,x,h=>by
  simp only [PX] at h
  refine ⟨fun _ => ?_,fun x=>by omega⟩
  split at h
  · split at h
    · cases h
    · obtain ⟨c,y,h1,h2⟩:=andX_some h
      have q1:=(PX_ok toks f 0 (nest+1) (a+1) _ c y h1).1 (by omega)
      split at h2
      · rename_i ht
        have hl:=isT_ltX ht
        cases h2
        have:=q1.ab;have:=q1.size
        exact ⟨by omega,fun _=>by omega,by omega,q1.words⟩
      · cases h2
  · split at h
    · split at h
      · cases h
      · obtain ⟨c,y,h1,h2⟩:=andX_some h
        have q1:=(PX_ok toks f 0 (nest+1) (a+1) _ c y h1).1 (by omega)
        split at h2
        · obtain ⟨d,z,h3,h4⟩:=andX_some h2
          have q2:=(PX_ok toks f 0 (nest+1) (c+1) _ d z h3).1 (by omega)
          split at h4
          · obtain ⟨e,u,h5,h6⟩:=andX_some h4
            have q3:=(PX_ok toks f 0 (nest+1) (d+1) _ e u h5).1 (by omega)
            split at h6
            · rename_i ht
              have hl:=isT_ltX ht
              cases h6
              have:=q1.ab;have:=q1.size;have:=q2.ab;have:=q2.size;have:=q3.ab;have:=q3.size
              refine ⟨by omega,fun _=>by omega,by simp only [sizeX,two,three];omega,fun n hn => ?_⟩
              rcases hn with hn | hn | hn
              · exact q1.words n hn
              · exact q2.words n hn
              · exact q3.words n hn
            · cases h6
          · cases h4
        · cases h2
    · cases hlf:leafX (tx toks a) with
      | none=>rw [hlf] at h;cases h
      | some v =>
       rw [hlf] at h
       cases h
       obtain ⟨h1,h2,h3⟩:=leafX_ok hlf
       exact ⟨by omega,fun _=>by omega,by omega,fun n hn => .inr (h3 n hn)⟩
 | f+1,4,nest,a,acc,b,x,h=>by
  simp only [PX] at h
  refine ⟨fun x=>by omega,fun _ => ?_⟩
  split at h
  · rename_i ht
    have hl:=isT_ltX ht
    obtain ⟨c,y,h1,h2⟩:=andX_some h
    have q1:=(PX_ok toks f 2 nest (a+1) _ c y h1).1 (by omega)
    have q2:=(PX_ok toks f 4 nest c _ b x h2).2 (by omega)
    have:=q1.ab;have:=q2.ab;have:=q1.size;have h9:=q2.size
    simp only [sizeX,two,three] at h9
    refine ⟨by omega,fun _=>q2.le (q1.le (by omega)),by omega,fun n hn => ?_⟩
    rcases q2.words n hn with (h3 | h3) | h3
    · exact .inl h3
    · exact (q1.words n h3).elim (fun x=>x.elim) .inr
    · exact .inr h3
  · cases h
    exact ⟨Nat.le_refl _,fun h=>h,by omega,fun n hn => .inl hn⟩
 | f+1,tag+5,nest,a,acc,b,x,h=>by
  simp only [PX] at h
  refine ⟨fun x=>by omega,fun _ => ?_⟩
  split at h
  · rename_i ht
    have hl:=isT_ltX ht
    obtain ⟨c,y,h1,h2⟩:=andX_some h
    have q1:=(PX_ok toks f 3 nest (a+1) _ c y h1).1 (by omega)
    have q2:=(PX_ok toks f 5 nest c _ b x h2).2 (by omega)
    have:=q1.ab;have:=q2.ab;have:=q1.size;have h9:=q2.size
    simp only [sizeX,two,three] at h9
    refine ⟨by omega,fun _=>q2.le (q1.le (by omega)),by omega,fun n hn => ?_⟩
    rcases q2.words n hn with (h3 | h3) | h3
    · exact .inl h3
    · exact (q1.words n h3).elim (fun x=>x.elim) .inr
    · exact .inr h3
  · cases h
    exact ⟨Nat.le_refl _,fun h=>h,by omega,fun n hn => .inl hn⟩
structure IOk (toks:List Tok) (i:Itx):Prop where
 num:i.num < toks.length
 name:nameB i.name=true∧i.name∈wordsT toks
 use:i.kind=0→i.ex=none
 let':i.kind≠0→(i.kind=1∨i.kind=2)∧(i.typ=int_∨i.typ=bool_)∧∃ e,i.ex=some e∧sizeX e≤toks.length∧∀ n,inX n e→n∈wordsT toks∧nameB n=true
theorem isTy_word {toks:List Tok} {a:Nat} (h:isTy toks a=true):tx toks a=int_∨tx toks a=bool_:=by
 have key:∀ l:List UInt8,isT toks a l=true→tx toks a=⟨⟨l⟩⟩:=fun l hl=>by
  unfold isT at hl
  have:=eq_of_beq hl
  apply ByteArray.ext
  apply Array.toList_inj.1
  simpa [ByteArray.toList_eq] using this
 unfold isTy at h
 rcases Bool.or_eq_true_iff.1 h with h1 | h1
 · exact .inl (key _ h1)
 · exact .inr (key _ h1)
theorem letX_ok {toks:List Tok} {k a b:Nat} {i:Itx} (hk:k=1∨k=2) (h:letX toks k a=(b,some i)):IOk toks i∧a < b∧b≤toks.length:=by
 unfold letX at h
 split at h
 · split at h
   · rename_i hn
     split at h
     · split at h
       · rename_i hty
         split at h
         · rename_i h4
           rcases he:exprX toks (a+5) with ⟨c,r⟩
           rw [he] at h
           cases r with
           | none=>cases h
           | some x =>
            simp only at h
            split at h
            · rename_i h5
              cases h
              have hP:PX toks 1700 0 0 (a+5) (.tru true)=some (c,some x):=by
               unfold exprX at he
               cases hp:PX toks 1700 0 0 (a+5) (.tru true) with
               | none=>rw [hp] at he;cases he
               | some q=>rw [hp] at he;exact congrArg some he
              have q:=(PX_ok toks _ _ _ _ _ _ _ hP).1 (by omega)
              have hl:=isT_ltX h5
              have hl4:=isT_ltX h4
              obtain ⟨w1,w2⟩:=tx_word (nameB_neX hn)
              have:=q.ab;have:=q.size
              exact ⟨⟨w2,⟨hn,w1⟩,fun h0=>(by simp only at h0;omega),fun _=>⟨hk,isTy_word hty,x,rfl,by omega,fun n hin=>(q.words n hin).elim (fun x=>x.elim) id⟩⟩,by omega,by omega⟩
            · cases h
         · cases h
       · cases h
     · cases h
   · cases h
 · cases h
theorem itemX_ok {toks:List Tok} {a b:Nat} {i:Itx} (h:itemX toks a=(b,some i)):IOk toks i∧a < b∧b≤toks.length:=by
 unfold itemX at h
 split at h
 · unfold useX at h
   split at h
   · rename_i hn
     split at h
     · rename_i ht
       have hl:=isT_ltX ht
       cases h
       obtain ⟨w1,w2⟩:=tx_word (nameB_neX hn)
       exact ⟨⟨w2,⟨hn,w1⟩,fun _=>rfl,fun h0=>absurd rfl h0⟩,by omega,by omega⟩
     · cases h
   · cases h
 · split at h
   · obtain ⟨x,y,z⟩:=letX_ok (.inr rfl) h
     exact ⟨x,by omega,z⟩
   · exact letX_ok (.inl rfl) h
theorem treeXP_ok {toks:List Tok}:∀ (f a:Nat),(∀ i∈(treeXP toks f a).1,IOk toks i)∧(treeXP toks f a).1.length≤f
 | 0,a=>by simp [treeXP]
 | f+1,a=>by
  unfold treeXP
  split
  · simp
  · rcases h:itemX toks a with ⟨b,r⟩
    cases r with
    | none=>simp
    | some i =>
     have hi:=itemX_ok h
     obtain ⟨h1,h2⟩:=treeXP_ok (toks:=toks) f b
     refine ⟨fun j hj => ?_,by simp;exact h2⟩
     rcases List.mem_cons.1 hj with rfl | hj
     · exact hi.1
     · exact h1 j hj
theorem treeX_ok (toks:List Tok):(∀ i∈(treeX toks).1,IOk toks i)∧(treeX toks).1.length≤toks.length:=treeXP_ok _ _
theorem flat5n:∀ (l:List It) (k j:Nat) (i:It),l[k]? = some i→j < 5→(l.flatMap itCells)[k * 5+j]? = (itCells i)[j]?
 | [],k,j,i,h,_=>by simp at h
 | a :: r,0,j,i,h,hj=>by
  simp at h;subst h
  rw [List.flatMap_cons,List.getElem?_append_left (by simp [itCells];omega)];simp
 | a :: r,k+1,j,i,h,hj=>by
  simp at h
  rw [List.flatMap_cons,List.getElem?_append_right (by simp [itCells];omega)]
  have:=flat5n r k j i h hj
  rw [←this]
  congr 1
  simp [itCells];omega
def isN (nm:ByteArray) (i:It):Bool:=!(i.kind == 0) && (i.name.toList == nm.toList)
def namedL (nm:ByteArray) (items:List It):List It:=items.filter (isN nm)
theorem namedL_snoc (nm:ByteArray) (l:List It) (i:It):namedL nm (l ++ [i])=namedL nm l ++ (if isN nm i then [i] else []):=by
 unfold namedL
 rw [List.filter_append]
 congr 1
 cases h:isN nm i <;> simp [h]
theorem namedL_len (nm:ByteArray) (l:List It):(namedL nm l).length≤l.length:=List.length_filter_le _ _
structure NX (nm:ByteArray) (items:List It) (ao:Option Addr) (c:Nat) (fault:Value) (w wr:World) (k:Nat) (v:Value):Prop where
 bl:Below w.heap.size w wr
 pr:wr.heap[w.heap.size]? = some (.cells #[.slice ao items.length c,fault] 87)
 own:wr.ownsRow (w.heap.size+1) 137 5 v (namedL nm (items.take k)).length ((namedL nm (items.take k)).flatMap itCells)
theorem NX.lt {nm:ByteArray} {items:List It} {ao:Option Addr} {c:Nat} {fault:Value} {w wr:World} {k:Nat} {v:Value} (h:NX nm items ao c fault w wr k v):w.heap.size < wr.heap.size:=heap_lt h.pr
theorem NX.shape {nm:ByteArray} {items:List It} {ao:Option Addr} {c:Nat} {fault:Value} {w wr:World} {k:Nat} {v:Value} (h:NX nm items ao c fault w wr k v):∃ ao m c,v = .slice ao m c:=by
 obtain ⟨_,⟨h,_⟩ | ⟨g,c,_,h,_⟩⟩:=h.own
 · exact ⟨none,0,0,h⟩
 · exact ⟨_,_,_,h⟩
theorem NX.cell {nm:ByteArray} {items:List It} {ao:Option Addr} {c g:Nat} {fault:Value} {w wr:World} {k':Nat} {v:Value} (h:NX nm items ao c fault w wr k' v) {cur:Array Value} (hg:w.heap[g]? = some (.cells cur 137 (0,0))) (hc:cur.toList.take (items.length * 5)=items.flatMap itCells) {k:Nat} {i:It} (hi:items[k]? = some i) {j:Nat} {u:Value} (hj:(itCells i)[j]? = some u) :
 wr.cell? ⟨g,k * 5+j,none⟩=some u:=by
 have h1:=below_heap h.bl (heap_lt hg) hg
 have hj5:j < 5:=by
  rcases Nat.lt_or_ge j 5 with h5 | h5
  · exact h5
  · simp [itCells,List.getElem?_eq_none (show [Value.int .i64 i.kind, .int .i64 i.num, .string i.name, .string i.typ,i.ex].length≤j by simpa using h5)] at hj
 have h2:=flat5n items k j i hi hj5
 rw [hj] at h2
 have h3:=take_get hc h2
 rw [heap_cell h1,←Array.getElem?_toList,h3]
theorem NX.alloc {nm:ByteArray} {items:List It} {ao:Option Addr} {c:Nat} {fault:Value} {w wr:World} {k:Nat} {v:Value} (h:NX nm items ao c fault w wr k v) (o:Obj):NX nm items ao c fault w (wr.alloc o) k v :=
 ⟨h.bl.alloc (Nat.le_of_lt h.lt) _,old_heap _ h.pr,h.own.alloc _⟩
theorem NX.skip {nm:ByteArray} {items:List It} {ao:Option Addr} {c:Nat} {fault:Value} {w wr:World} {k:Nat} {v:Value} (h:NX nm items ao c fault w wr k v) {i:It} (hi:items[k]? = some i) (hn:isN nm i=false):NX nm items ao c fault w wr (k+1) v:=by
 have e:items.take (k+1)=items.take k ++ [i]:=by rw [List.take_add_one,hi];rfl
 refine ⟨h.bl,h.pr,?_⟩
 rw [e,namedL_snoc,hn]
 simpa using h.own
theorem NX.put {nm:ByteArray} {items:List It} {ao:Option Addr} {c:Nat} {fault:Value} {w wr w':World} {k:Nat} {v v':Value} (h:NX nm items ao c fault w wr k v) {i:It} (hi:items[k]? = some i) (hn:isN nm i=true)
 (hown:w'.ownsRow (w.heap.size+1) 137 5 v' ((namedL nm (items.take k)).length+1) ((namedL nm (items.take k)).flatMap itCells ++ itCells i)) (hg:wr.grownBy w' v.ownBlock):NX nm items ao c fault w w' (k+1) v':=by
 have e:items.take (k+1)=items.take k ++ [i]:=by rw [List.take_add_one,hi];rfl
 have hlt:=fun k hk=>(h.own.lt k hk).1
 refine ⟨h.bl.grown hg (Nat.le_of_lt h.lt) (fun k hk=>by have:=hlt k hk;omega),?_,?_⟩
 · exact (hg.block _ h.lt fun e=>by have:=hlt _ e.symm;omega).trans h.pr
 · rw [e,namedL_snoc,hn]
   simpa using hown
theorem named_any (nm:ByteArray) (items:List It) (hn:items.length≤401) (hex:∀ i∈items,i.ex = .nilIface∨∃ T v,i.ex = .iface T v) (fault:Value) (ao:Option Addr) (c:Nat) (w:World)
 (hao:0 < items.length→∃ g cur,ao=some ⟨g,0,none⟩∧w.heap[g]? = some (.cells cur 137 (0,0))∧cur.toList.take (items.length * 5)=items.flatMap itCells) :
 Calls Tryz.prog 100 #[.agg #[.slice ao items.length c,fault], .string nm] w fun e w' => ∃ v,e = .returned v∧w'.ownsRow (w.heap.size+1) 137 5 v (namedL nm items).length ((namedL nm items).flatMap itCells)∧Below w.heap.size w w':=by
 obtain ⟨i0,hi0,hz0,hz1,hz2⟩:=info_parts Tryz.infoItem
 have k0:(w.alloc (.cells #[.slice ao items.length c,fault] 87)).cell? ⟨w.heap.size,0,none⟩=some (.slice ao items.length c):=heap_cell (i:=0) (new_heap w _)
 have HAO:=hid hao
 have HEX:=hid hex
 have HE0:Hid (NX nm items ao c fault w (w.alloc (.cells #[.slice ao items.length c,fault] 87)) 0 (.slice none 0 0)):=hid
  ⟨(Below.refl _ _).alloc (Nat.le_refl _) _,new_heap _ _,World.ownsRow_nil _ _ _ _⟩
 clear hao hex
 go_enter Tryz.func100,Tryz.ntmps100
 go_wp2
 go_loopg [5,11] items.length (fun f v v8 wr => ∃ k,k+f=items.length∧v8 = .int .i64 (k:Nat)∧NX nm items ao c (fault) w wr k v)
 case atStart=>exact ⟨0,by omega,rfl,HE0.out⟩
 case round =>
  clear HE0 k0
  obtain ⟨k,hk,rfl,hext⟩:=hrel
  obtain ⟨no,nm',nc,rfl⟩:=hext.shape
  have HT:=hid hext
  clear hext
  by_cases hlt:k < items.length
  · obtain ⟨g,cur,rfl,hg,hc⟩:=HAO.out (by omega)
    have hi:=List.getElem?_eq_getElem hlt
    have hexi:=HEX.out items[k] (List.getElem_mem hlt)
    generalize hii:items[k]=i at hi hexi
    obtain ⟨ik,inum,inm,ity,iex⟩:=i
    simp only at hexi
    have z0:=HT.out.cell hg hc hi (j:=0) rfl
    have z1:=HT.out.cell hg hc hi (j:=1) rfl
    have z2:=HT.out.cell hg hc hi (j:=2) rfl
    have z3:=HT.out.cell hg hc hi (j:=3) rfl
    have z4:=HT.out.cell hg hc hi (j:=4) rfl
    rw [Nat.add_zero] at z0
    have hlt2:(k:Int) < (items.length:Int):=by omega
    have hkc:(0:Int)≤(k:Int):=by omega
    have HI:=hid hi
    clear hg hc hi hii
    have hown0:=HT.out.own
    have HLEN:=hid (namedL_len nm (items.take k))
    rcases hexi with rfl | ⟨T,ue,rfl⟩
    all_goals
     cases h2:(ik == 0) with
     | true =>
      have hi2:(ik:Int)=0:=by
       rw [beq_iff_eq] at h2;omega
      have hb2:((ik:Int) == 0)=true:=by rw [beq_iff_eq];exact hi2
      have HN2:=hid h2
      clear h2 hown0
      go_wp2
      go_roundg (items.length - (k+1))
      case rel=>exact ⟨k+1,by omega,by go_num,(HT.out.alloc _).skip HI.out (by simp only [isN];rw [HN2.out];rfl)⟩
      case measure=>omega
     | false =>
      have hi2:¬ ((ik:Int)=0):=by
       rw [beq_eq_false_iff_ne] at h2;omega
      have hb2:((ik:Int) == 0)=false:=by rw [beq_eq_false_iff_ne];exact hi2
      have HN2:=hid h2
      clear h2
      cases h3:(inm.toList == nm.toList) with
      | false =>
       have HN3:=hid h3
       clear hown0
       go_wp2
       go_roundg (items.length - (k+1))
       case rel=>exact ⟨k+1,by omega,by go_num,(HT.out.alloc _).skip HI.out (by simp only [isN];rw [HN2.out,HN3.out];rfl)⟩
       case measure=>omega
      | true =>
       have HN3:=hid h3
       have HOB:=HT.out.lt
       go_wp2_with (at_builtin;go_must (refine wpList_append_own _ rfl _ _ 85 rfl (w.heap.size+1) 137 i0 (.agg #[.int .i64 0, .int .i64 0, .string ⟨#[]⟩, .string ⟨#[]⟩, .nilIface]) 5 64 Tryz.underlying85 hi0 hz0 hz1 hz2 rfl (by decide) _ _ _ rfl ((hown0.alloc _).alloc _) ⟨_,0,none⟩ 1 1 [.int .i64 ik, .int .i64 inum, .string inm, .string ity,_] rfl rfl (five_cells _ _ (by simp) _ _ _ _ _ _) ?c2 ?c3 ?c4 ?c5 ?_))
       case c2=>exact ⟨rfl,rfl,rfl,rfl,rfl⟩
       case c3=>have:=HLEN.out;simp only [List.length_take] at this;unfold maxLen;omega
       case c4=>have:=HLEN.out;simp only [List.length_take] at this;omega
       case c5=>first | omega | (simp;omega)
       intro v' w4 hown' hgrow _
       have ht4:=((HT.out.alloc _).alloc _).put HI.out (by simp only [isN];rw [HN2.out,HN3.out];rfl) hown' hgrow
       obtain ⟨ao',m',c',rfl⟩:=ht4.shape
       have HT4:=hid ht4
       clear ht4 hown' hgrow hown0
       go_wp2
       go_roundg (items.length - (k+1))
       case rel=>exact ⟨k+1,by omega,by go_num,HT4.out⟩
       case measure=>omega
  · have hke:k=items.length:=by omega
    subst hke
    have hown:=HT.out.own
    rw [List.take_length] at hown
    have HO:=hid hown
    have HBL:=hid HT.out.bl
    clear hown
    go_wp2
    go_ret
    exact ⟨_,rfl,HO.out,HBL.out⟩
theorem named_map (nm:ByteArray) (its:List Itx):namedL nm (its.map itOf)=(namedX nm its).map itOf:=by
 unfold namedL namedX
 rw [List.filter_map]
 rfl
theorem encX_iface (e:Ex):∃ T v,encX e = .iface T v:=by refine Ex.ind (P:=fun e => ∃ T v,encX e = .iface T v) ?_ ?_ ?_ ?_ ?_ e <;> intros <;> exact ⟨_,_,rfl⟩
theorem exV_shape (i:Itx):(itOf i).ex = .nilIface∨∃ T v,(itOf i).ex = .iface T v:=by
 obtain ⟨k,n,nm,ty,ex⟩:=i
 cases ex with
 | none=>exact .inl rfl
 | some e=>exact .inr (encX_iface e)
def TQ (W0:World) (B bs lb:Nat) (fm:Value) (st0:St V) (L0:Lay) (w0:World) (st:St V) (L:Lay) (w:World) (st1:St V) (lk1:List Lk) (its:List Itx) (fl:Option Nat) (ao:Option Addr) (c:Nat) (w9:World):Prop :=
 ∃ L',Got W0 B bs lb fm st0 L0 w0 st L w st1 L' lk1 w9∧TRow L' w9 ao c its∧∃ s:ByteArray,s.size≤400∧(its,fl)=treeX (lexAll s)
section
variable {W0:World} {E:Eng V} {B bs lb:Nat} {fm:Value} {st0 st st1:St V} {L0 L:Lay} {w0 w:World} {lk lk1:List Lk} {nc:Bool} {its:List Itx} {fl:Option Nat} {ao:Option Addr} {c:Nat}
theorem Row.below {O:Nat→Prop} {w w':World} {T:TypeId} {v:Value} {n:Nat} {xs:List Value} (h:Row O w T v n xs) (hb:Below w.heap.size w w'):Row O w' T v n xs:=h.next (FR.of_below (O:=O) hb) fun _ h => .inl h
theorem TQ.below {w9 w':World} (h:TQ W0 B bs lb fm st0 L0 w0 st L w st1 lk1 its fl ao c w9) (hb:Below w9.heap.size w9 w'):TQ W0 B bs lb fm st0 L0 w0 st L w st1 lk1 its fl ao c w':=by
 obtain ⟨L',h1,h2,h3⟩:=h
 exact ⟨L',h1.below hb,Row.below h2 hb,h3⟩
theorem TQ.set {w9:World} (h:TQ W0 B bs lb fm st0 L0 w0 st L w st1 lk1 its fl ao c w9) (h0:w0.heap.size≤w.heap.size) (h00:W0.heap.size≤w0.heap.size) {vb:Nat} {cs:Array Value} (hb:w9.heap[vb]? = some (.cells cs 87)) (h3:w.heap.size≤vb) (i:Nat) (u:Value):TQ W0 B bs lb fm st0 L0 w0 st L w st1 lk1 its fl ao c (w9.setCell ⟨vb,i,none⟩ u):=by
 obtain ⟨L',h1,h2,h4⟩:=h
 exact ⟨L',⟨h1.n.box h3 i u,h1.s.box hb (Nat.le_trans h0 h3) h00 i u⟩,Row.boxR h2 (by decide) hb i u,h4⟩
theorem TQ.lift {wx w9:World} (hb:Below w.heap.size w wx) (h:TQ W0 B bs lb fm st0 L0 w0 st L wx st1 lk1 its fl ao c w9):TQ W0 B bs lb fm st0 L0 w0 st L w st1 lk1 its fl ao c w9:=by
 obtain ⟨L',h1,h2,h3⟩:=h
 exact ⟨L',h1.lift hb,h2,h3⟩
end
structure Drawn (a W:World):Prop where
 h:W.heap=a.heap
 os:W.os=a.os
 tape:W.tape=a.tape
 output:W.output=a.output
theorem Drawn.below {a W:World} (h:Drawn a W):Below a.heap.size a W:=⟨h.os,h.tape,h.output,by rw [h.h];exact Nat.le_refl _,fun k _=>by rw [h.h]⟩
theorem Drawn.cell {a W:World} (h:Drawn a W) {p:Addr} {v:Value} (hc:a.cell? p=some v):W.cell? p=some v:=by
 unfold World.cell? at hc ⊢;rw [h.1];exact hc
theorem Drawn.own {a W:World} (h:Drawn a W) {B z n:Nat} {T:TypeId} {v:Value} {xs:List Value} (ho:a.ownsRow B T z v n xs):W.ownsRow B T z v n xs:=own_far ho fun g _=>by rw [h.1]
theorem eqB_lit (a:ByteArray) (l:List UInt8):eqB a ⟨⟨l⟩⟩=(a.toList == l):=by
 have h:(⟨⟨l⟩⟩:ByteArray).toList=l:=by simp
 rw [eqB,h]
theorem memB_take (l:List ByteArray) (x t:ByteArray) (i:Nat) (hi:l[i]? = some t):memB (l.take (i+1)) x=(memB (l.take i) x || eqB t x):=by
 rw [List.take_add_one,hi]
 simp [memB]
theorem indexStr {w:World} {ga:Option Addr} {c:Nat} {l:List ByteArray} (hl:l.length≤1099511627776) (hc:∀ (i:Nat) t,l[i]? = some t→∃ g,ga=some ⟨g,0,none⟩∧w.cell? ⟨g,i,none⟩=some (.string t)) (x:ByteArray) :
 Calls Tryz.prog 148 #[.slice ga l.length c, .string x] w fun e w' => ∃ r:Int,e = .returned (.int .i64 r)∧decide (0≤r)=memB l x∧∃ m,w'=w.drewN m:=by
 have HC:=hid hc
 clear hc
 go_enter Tryz.func148,Tryz.ntmps148
 go_wp2
 go_loopg [8] l.length (fun g vi wr => ∃ (i m:Nat),g+i=l.length∧vi = .int .i64 (i:Nat)∧wr=w.drewN m∧memB (l.take i) x=false)
 case atStart=>exact ⟨0,0,by omega,rfl,rfl,rfl⟩
 case round =>
  obtain ⟨i,m,hg,rfl,hwr,hno⟩:=hrel
  have HNO:=hid hno
  clear hno
  have hi0:(0:Int)≤(i:Int):=by omega
  by_cases hi:i < l.length
  · have hil:(i:Int) < (l.length:Int):=by omega
    obtain ⟨t,ht⟩:∃ t,l[i]? = some t:=⟨l[i],List.getElem?_eq_getElem hi⟩
    obtain ⟨g0,rfl,hc1⟩:=HC.out i t ht
    have hc2:wr.cell? ⟨g0,i,none⟩=some (.string t):=by rw [hwr];exact hc1
    have hc3:wr.drew.cell? ⟨g0,i,none⟩=some (.string t):=by rw [hwr];exact hc1
    have HWR:=hid hwr
    have HST:=hid (memB_take l x t i ht)
    clear hwr hc1 ht
    cases hq:(x.toList == t.toList) with
    | true =>
     have HQ:=hid hq
     have hd:memB l x=true:=by
      have h1:memB (l.take (i+1)) x=true:=by
       rw [HST.out,show eqB t x=true from eqB_is.2 (eqB_is.1 (show eqB x t=true from hq)).symm];simp
      rw [memB_iff] at h1 ⊢
      exact List.mem_of_mem_take h1
     have HD:=hid hd
     clear hd
     go_wp2
     go_ret
     exact ⟨i,rfl,by rw [HD.out];simp,m,HWR.out⟩
    | false =>
     have HQ:=hid hq
     have HN2:=hid (show memB (l.take (i+1)) x=false by
      rw [HST.out,HNO.out,show eqB t x=false from eqB_no fun e=>by rw [e] at hq;exact absurd hq (by simp)];rfl)
     go_wp2
     have HG:=hid hg
     go_roundg (l.length - (i+1))
     all_goals first
      | (have:=HG.out;omega)
      | exact ⟨i+1,m,by omega,by go_num,HWR.out,HN2.out⟩
      | exact ⟨i+1,m+1,by omega,by go_num,by rw [HWR.out];rfl,HN2.out⟩
  · have hil:¬ ((i:Int) < (l.length:Int)):=by omega
    have HWR:=hid hwr
    have HN2:=hid (show memB l x=false by have:=HNO.out;rwa [List.take_of_length_le (by omega)] at this)
    clear hwr
    go_wp2
    go_ret
    exact ⟨-1,rfl,by rw [HN2.out];decide,m,HWR.out⟩
theorem containsStr {w:World} {ga:Option Addr} {c:Nat} {l:List ByteArray} (hl:l.length≤1099511627776) (hc:∀ (i:Nat) t,l[i]? = some t→∃ g,ga=some ⟨g,0,none⟩∧w.cell? ⟨g,i,none⟩=some (.string t)) (x:ByteArray) :
 Calls Tryz.prog 129 #[.slice ga l.length c, .string x] w fun e w'=>e = .returned (.bool (memB l x))∧∃ m,w'=w.drewN m:=by
 have HX:=hid (indexStr hl hc x (c:=c))
 clear hc
 go_enter Tryz.func129,Tryz.ntmps129
 go_wp2_with fail
 refine HX.out.mono ?_
 rintro e w1 ⟨r,rfl,hr,m,hm⟩
 have HM:=hid hm
 have HR:=hid hr
 clear hm hr
 go_wp2
 go_ret
 exact ⟨by rw [←HR.out];rfl,m,HM.out⟩
theorem decFrom_lt:∀ (l:List UInt8) (acc n:Nat),Lib.decFrom acc l=some n→n < (acc+1) * 10 ^ l.length
 | [],acc,n,h=>by simp [Lib.decFrom] at h;subst h;simp
 | c :: l,acc,n,h=>by
  unfold Lib.decFrom at h
  cases hd:Lib.digitVal c with
  | none=>rw [hd] at h;cases h
  | some d =>
   rw [hd] at h
   have h1:=decFrom_lt l (acc * 10+d) n h
   have h2:d < 10:=by unfold Lib.digitVal at hd;split at hd <;> simp at hd;omega
   have h3:(acc * 10+d+1) * 10 ^ l.length≤(acc+1) * 10 * 10 ^ l.length:=Nat.mul_le_mul_right _ (by omega)
   rw [List.length_cons,Nat.pow_succ,Nat.mul_comm (10 ^ l.length) 10,←Nat.mul_assoc]
   omega
theorem tw_mem {p:UInt8→Bool}:∀ (l:List UInt8) {x:UInt8},x∈l.takeWhile p→p x=true
 | c :: l,x,h=>by
  rw [List.takeWhile_cons] at h
  split at h
  · rename_i hc
    rcases List.mem_cons.1 h with rfl | h1
    · exact hc
    · exact tw_mem l h1
  · simp at h
theorem tw_self {p:UInt8→Bool}:∀ (l:List UInt8),(∀ x∈l,p x=true)→l.takeWhile p=l
 | [],_=>rfl
 | c :: l,h=>by rw [List.takeWhile_cons,if_pos (h c (by simp)),tw_self l fun x hx=>h x (List.mem_cons_of_mem _ hx)]
theorem runL_all {l:List UInt8} (h:runL isDigB l=l.length):∀ x∈l,isDigB x.toNat=true:=by
 unfold runL at h
 intro x hx
 have:l.takeWhile (fun c=>isDigB c.toNat)=l:=by
  have hp:=List.takeWhile_prefix (l:=l) fun c=>isDigB c.toNat
  exact hp.eq_of_length h
 rw [←this] at hx
 exact tw_mem l hx
theorem numB_digs {t:ByteArray} (h:numB t=true):1≤t.size∧t.size≤9∧∀ x∈t.data.toList,isDigB x.toNat=true:=by
 unfold numB at h
 simp only [Bool.and_eq_true,decide_eq_true_eq,beq_iff_eq] at h
 refine ⟨h.1.1,h.1.2,runL_all ?_⟩
 have:t.data.toList.length=t.size:=by simp
 omega
theorem numVal_bd {t:ByteArray} (h:numB t=true):0≤numVal t∧numVal t≤999999999:=by
 obtain ⟨h1,h2,h3⟩:=numB_digs h
 unfold numVal
 have hl:t.data.toList.length=t.size:=by simp
 generalize t.data.toList=l at *
 cases l with
 | nil=>simp at hl;omega
 | cons c r =>
  have hc:=h3 c (by simp)
  unfold isDigB at hc
  simp only [Bool.and_eq_true,decide_eq_true_eq] at hc
  have n1:(c == 45)=false:=by rw [beq_eq_false_iff_ne];rintro rfl;exact absurd hc.1 (by decide)
  have n2:(c == 43)=false:=by rw [beq_eq_false_iff_ne];rintro rfl;exact absurd hc.1 (by decide)
  simp only [Lib.atoi,n1,n2,Bool.false_eq_true,if_false,Lib.decNat,List.isEmpty_cons]
  cases hd:Lib.decFrom 0 (c :: r) with
  | none=>simp
  | some n =>
   have:=decFrom_lt _ _ _ hd
   have h9:10 ^ (c :: r).length≤10 ^ 9:=Nat.pow_le_pow_right (by omega) (by omega)
   simp
   omega
theorem dg_isDig {n:Nat} (h:n < 10):isDigB (UInt8.ofNat (48+n)).toNat=true:=by
 have e:(UInt8.ofNat (48+n)).toNat=48+n:=by simp;omega
 rw [e]
 unfold isDigB
 simp only [Bool.and_eq_true,decide_eq_true_eq]
 omega
theorem decDigits_digs:∀ (k n:Nat),n < 10 ^ k→0 < k→(Lib.decDigits n).length≤k∧1≤(Lib.decDigits n).length∧∀ x∈Lib.decDigits n,isDigB x.toNat=true
 | 0,n,_,h=>by omega
 | k+1,n,h,_=>by
  by_cases h10:n < 10
  · rw [Lib.decDigits,dif_pos h10]
    refine ⟨by simp,by simp,fun x hx => ?_⟩
    rw [List.mem_singleton] at hx;subst hx
    exact dg_isDig h10
  · rw [Lib.decDigits,dif_neg h10]
    have hk:0 < k:=by
     rcases Nat.eq_zero_or_pos k with rfl | h1
     · simp at h;omega
     · exact h1
    obtain ⟨a,b,c⟩:=decDigits_digs k (n / 10) (by rw [Nat.pow_succ] at h;omega) hk
    refine ⟨by simp;omega,by simp,fun x hx => ?_⟩
    rcases List.mem_append.1 hx with h1 | h1
    · exact c x h1
    · rw [List.mem_singleton] at h1;subst h1
      exact dg_isDig (Nat.mod_lt _ (by omega))
theorem numB_of {l:List UInt8} (h1:1≤l.length) (h2:l.length≤9) (h3:∀ x∈l,isDigB x.toNat=true):numB ⟨l.toArray⟩=true:=by
 have hs:(⟨l.toArray⟩:ByteArray).size=l.length:=by simp [ByteArray.size]
 have ht:l.takeWhile (fun c=>isDigB c.toNat)=l:=tw_self l h3
 unfold numB runL
 simp only [hs,Bool.and_eq_true,decide_eq_true_eq,beq_iff_eq,List.toList_toArray,ht]
 exact ⟨⟨h1,h2⟩,trivial⟩
theorem itoa_num {n:Int} (h0:0≤n) (h1:n≤999999999):numB ⟨(Lib.itoa n).toArray⟩=true:=by
 obtain ⟨m,rfl⟩:=Int.eq_ofNat_of_zero_le h0
 have e:Lib.itoa (m:Int)=Lib.decDigits m:=by unfold Lib.itoa;rw [if_neg (by omega)];simp
 rw [e]
 obtain ⟨a,b,c⟩:=decDigits_digs 9 m (by omega) (by omega)
 exact numB_of b a c
def numsOk:Ex→Prop
 | ⟨.inl n,_⟩=>0≤n∧n≤999999999
 | ⟨.inr (.inl _),_⟩=>True
 | ⟨.inr (.inr (.inl _)),_⟩=>True
 | ⟨.inr (.inr (.inr (.inl op))),s'⟩=>(op = [43]∨op = [42]∨op = [61,61])∧numsOk (s' false)∧numsOk (s' true)
 | ⟨.inr (.inr (.inr (.inr _))),s'⟩=>numsOk (s' none)∧numsOk (s' (some false))∧numsOk (s' (some true))
theorem leafX_nums {t:ByteArray} {x:Ex} (h:leafX t=some x):numsOk x:=by
 unfold leafX at h
 split at h
 · cases h;trivial
 · split at h
   · rename_i hn
     cases h;exact numVal_bd hn
   · split at h
     · cases h;trivial
     · cases h
theorem PX_nums (toks:List Tok):∀ (f tag nest a:Nat) (acc:Ex) (b:Nat) (x:Ex),PX toks f tag nest a acc=some (b,some x)→(4≤tag→numsOk acc)→numsOk x
 | 0,_,_,_,_,_,_,h,_=>by simp [PX] at h
 | f+1,0,nest,a,acc,b,x,h,_=>by
  simp only [PX] at h
  obtain ⟨c,y,h1,h2⟩:=andX_some h
  have q1:=PX_nums toks f 1 nest a _ c y h1 (by omega)
  split at h2
  · obtain ⟨d,z,h3,h4⟩:=andX_some h2
    have q2:=PX_nums toks f 1 nest (c+1) _ d z h3 (by omega)
    cases h4
    exact ⟨.inr (.inr rfl),q1,q2⟩
  · cases h2;exact q1
 | f+1,1,nest,a,acc,b,x,h,_=>by
  simp only [PX] at h
  obtain ⟨c,y,h1,h2⟩:=andX_some h
  exact PX_nums toks f 4 nest c _ b x h2 fun _=>PX_nums toks f 2 nest a _ c y h1 (by omega)
 | f+1,2,nest,a,acc,b,x,h,_=>by
  simp only [PX] at h
  obtain ⟨c,y,h1,h2⟩:=andX_some h
  exact PX_nums toks f 5 nest c _ b x h2 fun _=>PX_nums toks f 3 nest a _ c y h1 (by omega)
 | f+1,3,nest,a,acc,b,x,h,_=>by
  simp only [PX] at h
  split at h
  · split at h
    · cases h
    · obtain ⟨c,y,h1,h2⟩:=andX_some h
      have q1:=PX_nums toks f 0 (nest+1) (a+1) _ c y h1 (by omega)
      split at h2
      · cases h2;exact q1
      · cases h2
  · split at h
    · split at h
      · cases h
      · obtain ⟨c,y,h1,h2⟩:=andX_some h
        have q1:=PX_nums toks f 0 (nest+1) (a+1) _ c y h1 (by omega)
        split at h2
        · obtain ⟨d,z,h3,h4⟩:=andX_some h2
          have q2:=PX_nums toks f 0 (nest+1) (c+1) _ d z h3 (by omega)
          split at h4
          · obtain ⟨e,u,h5,h6⟩:=andX_some h4
            have q3:=PX_nums toks f 0 (nest+1) (d+1) _ e u h5 (by omega)
            split at h6
            · cases h6;exact ⟨q1,q2,q3⟩
            · cases h6
          · cases h4
        · cases h2
    · cases hlf:leafX (tx toks a) with
      | none=>rw [hlf] at h;cases h
      | some v=>rw [hlf] at h;cases h;exact leafX_nums hlf
 | f+1,4,nest,a,acc,b,x,h,hacc=>by
  simp only [PX] at h
  split at h
  · obtain ⟨c,y,h1,h2⟩:=andX_some h
    exact PX_nums toks f 4 nest c _ b x h2 fun _=>⟨.inl rfl,hacc (by omega),PX_nums toks f 2 nest (a+1) _ c y h1 (by omega)⟩
  · cases h;exact hacc (by omega)
 | f+1,tag+5,nest,a,acc,b,x,h,hacc=>by
  simp only [PX] at h
  split at h
  · obtain ⟨c,y,h1,h2⟩:=andX_some h
    exact PX_nums toks f 5 nest c _ b x h2 fun _=>⟨.inr (.inl rfl),hacc (by omega),PX_nums toks f 3 nest (a+1) _ c y h1 (by omega)⟩
  · cases h;exact hacc (by omega)
theorem itemX_nums {toks:List Tok} {a b:Nat} {i:Itx} (h:itemX toks a=(b,some i)):∀ e,i.ex=some e→numsOk e:=by
 have key:∀ k a,letX toks k a=(b,some i)→∀ e,i.ex=some e→numsOk e:=by
  intro k a h e hi
  unfold letX at h
  split at h
  · split at h
    · split at h
      · split at h
        · split at h
          · rcases he:exprX toks (a+5) with ⟨c,r⟩
            rw [he] at h
            cases r with
            | none=>cases h
            | some x =>
             simp only at h
             split at h
             · cases h
               cases hi
               refine PX_nums toks 1700 0 0 (a+5) (.tru true) c _ ?_ (by omega)
               unfold exprX at he
               cases hp:PX toks 1700 0 0 (a+5) (.tru true) with
               | none=>rw [hp] at he;cases he
               | some q=>rw [hp] at he;exact congrArg some he
             · cases h
          · cases h
        · cases h
      · cases h
    · cases h
  · cases h
 unfold itemX at h
 split at h
 · unfold useX at h
   split at h
   · split at h
     · cases h;intro e he;cases he
     · cases h
   · cases h
 · split at h
   · exact key _ _ h
   · exact key _ _ h
theorem treeX_nums {toks:List Tok}:∀ i∈(treeX toks).1,∀ e,i.ex=some e→numsOk e:=by
 have key:∀ (f a:Nat),∀ i∈(treeXP toks f a).1,∀ e,i.ex=some e→numsOk e:=by
  intro f
  induction f with
  | zero=>intro a i hi;simp [treeXP] at hi
  | succ f ih =>
   intro a i hi
   unfold treeXP at hi
   split at hi
   · simp at hi
   · rcases h:itemX toks a with ⟨b,r⟩
     rw [h] at hi
     cases r with
     | none=>simp at hi
     | some j =>
      rcases List.mem_cons.1 hi with rfl | hi
      · exact itemX_nums h
      · exact ih b i hi
 exact key _ _
def okI (r:Option Int):Prop:=∀ a,r=some a→0≤a∧a≤999999999
theorem bndI_ok {n:Int} (h0:0≤n):okI (bndI n):=by
 intro a ha
 unfold bndI at ha
 split at ha
 · cases ha
 · cases ha;omega
theorem worthB_ok (b:Bool):0≤worthB b∧worthB b≤999999999:=by cases b <;> decide
theorem reckX_ok {M:ByteArray→Int} (hM:∀ n,0≤M n∧M n≤999999999):∀ (e:Ex),numsOk e→okI (reckX M e)
 | ⟨.inl n,_⟩,h=>fun a ha=>by cases ha;exact h
 | ⟨.inr (.inl b),_⟩,_=>fun a ha=>by cases ha;exact worthB_ok b
 | ⟨.inr (.inr (.inl t)),_⟩,_=>fun a ha=>by cases ha;exact hM t
 | ⟨.inr (.inr (.inr (.inl op))),s'⟩,⟨_,h1,h2⟩=>by
  have k1:=reckX_ok hM (s' false) h1
  have k2:=reckX_ok hM (s' true) h2
  unfold reckX
  cases hl:reckX M (s' false) with
  | none=>intro a ha;simp at ha
  | some a =>
   cases hr:reckX M (s' true) with
   | none=>intro a ha;simp at ha
   | some b =>
    have ha:=k1 a hl
    have hb:=k2 b hr
    simp only
    split
    · exact bndI_ok (by omega)
    · split
      · exact bndI_ok (Int.mul_nonneg ha.1 hb.1)
      · intro c hc;cases hc;exact worthB_ok _
 | ⟨.inr (.inr (.inr (.inr _))),s'⟩,⟨h0,h1,h2⟩=>by
  have k1:=reckX_ok hM (s' (some false)) h1
  have k2:=reckX_ok hM (s' (some true)) h2
  unfold reckX
  cases hy:reckX M (s' (some false)) with
  | none=>intro a ha;simp at ha
  | some a =>
   cases hn:reckX M (s' (some true)) with
   | none=>intro a ha;simp at ha
   | some b =>
    cases hc:reckX M (s' none) with
    | none=>intro a ha;simp at ha
    | some d =>
     have ha:=k1 a hy
     have hb:=k2 b hn
     intro z hz
     simp only [Option.some.injEq] at hz
     subst hz
     split
     · exact ha
     · exact hb
theorem readW_ok (v:ByteArray):0≤readW v∧readW v≤999999999:=by
 unfold readW
 split
 · omega
 · split
   · exact numVal_bd (by assumption)
   · omega
theorem valOk_write {kd:ByteArray} {n:Int} (h0:0≤n) (h1:n≤999999999):valOk (writeW kd n)=true:=by
 unfold writeW valOk
 split
 · split
   · have:eqB true_ true_=true:=eqB_is.2 rfl
     simp [this]
   · have:eqB false_ false_=true:=eqB_is.2 rfl
     simp [this]
 · simp [itoa_num h0 h1]
end Go.Proofs.YthibodlojlkppaaGreatDoor

/-
  The sessions at a first Set of the file a: small functions, the document's Set. The document's parser: Parse. The sessions at a first Set of the file a: the program's Set. The document's text of an expr. The document's parser: what its functions hold while they run. The document's parser: all items. The words of a text: the texts of its tokens, by lists of bytes. Sums as a plan makes them: their t
-/
import Derived.Test.YthibodlojlkppaaGreatDoorB01
import Derived.Test.YthibodlojlkppaaGreatDoorB07
import Derived.Test.YthibodlojlkppaaGreatDoorB08
import Derived.Test.YthibodlojlkppaaGreatDoorB25
import Derived.Test.YthibodlojlkppaaGreatDoorShelf
import Derived.WalkKit
import Derived.WalkSpells
import Derived.WalkLawsBesides
import Derived.Handy
import Derived.Deep.RegionWith
import Derived.Maps.OwnSet
import Derived.Maps.AppendAt
set_option linter.unusedVariables false
set_option linter.unusedSectionVars false
set_option linter.unusedSimpArgs false
set_option maxRecDepth 100000
set_option maxHeartbeats 40000000

namespace Go.Proofs.YthibodlojlkppaaGreatDoor.Ses
open Go.RowKit
theorem Fr.frozen {S:List Nat} {w w':World} (h:Fr S w w') {p:Addr} (hp:p.block < w.heap.size) (hn:p.block ∉ S):w'.frozen? p=w.frozen? p :=
 World.frozen?_of_block (w:=w) (h.block p.block hp hn)
end Go.Proofs.YthibodlojlkppaaGreatDoor.Ses
namespace Go.Proofs.YthibodlojlkppaaGreatDoor
open Go.RowKit
def ParsePost (toks:List Tok) (w:World):Ending→World→Prop:=fun e w' =>
 ∃ v xs,e = .returned (.tuple #[v,faultV (treeAll toks).2])∧w'.ownsRow w.heap.size 999999999 7 v (treeAll toks).1.length xs∧Its (fun k=>w.heap.size < k∧v.ownBlock≠some k) w' (treeAll toks).1 xs∧Below w.heap.size w w'
theorem QS.post {toks:List Tok} {tb cap:Nat} {w wr:World} {a:Nat} {no:Bool} {v:Value} {acc:List It} {xs:List Value} (h:QS toks tb cap w wr a no v acc xs) {fl:Option Nat} (ht:(acc,fl)=treeAll toks):ParsePost toks w (.returned (.tuple #[v,faultV fl])) wr:=by
 have e1:(treeAll toks).1=acc:=by rw [←ht]
 have e2:(treeAll toks).2=fl:=by rw [←ht]
 refine ⟨v,xs,by rw [e2],?_,by rw [e1];exact h.its,h.bl⟩
 rw [e1]
 obtain ⟨hl,h2 | ⟨g,c,cur,hv,hb,hr⟩⟩:=h.own
 · exact ⟨hl, .inl h2⟩
 · exact ⟨hl, .inr ⟨g,c,cur,hv,by omega,hr⟩⟩
end Go.Proofs.YthibodlojlkppaaGreatDoor
namespace Go.Proofs.YthibodlojlkppaaGreatDoor.Ses
open Go.RowKit
theorem PC.hid {w w':World} {bs bm bq bc:Nat} {r:Int} {o:Obj} (hb:Below w.heap.size w w') (h:Hid (PC w.heap bs bm bq bc r o)):Hid (PC w'.heap bs bm bq bc r o):=PC.below hb h.out
theorem PC.f1 {w:World} {bs bm bq bc:Nat} {r:Int} {o:Obj} (h:PC w.heap bs bm bq bc r o):w.frozen? ⟨bs,1,none⟩=false:=heap_frozen h.hs
theorem Fr.dr {S:List Nat} {a w:World} (h:Hid (Fr S a w)):Hid (Fr S a w.drew):=h.out.drew
theorem PreF.dr {w W:World} {bs:Nat} {r:Int} (h:Hid (PreF w W bs r)):Hid (PreF w W.drew bs r):=h.out.drew
end Go.Proofs.YthibodlojlkppaaGreatDoor.Ses
namespace Go.Proofs.YthibodlojlkppaaGreatDoor
open Go.RowKit
theorem Later.of_fr {K:Nat→Prop} {rb:Nat} {w w':World} (h:Fr [rb] w w') (hK:∀ k,K k→k≠rb):Later K w w':=⟨h.size,fun k hk hn=>h.block k hk (by simpa using hK k hn)⟩
section
variable {toks:List Tok} {rb tb cap c nest:Nat} {no:Bool} {w wr w':World}
theorem DS.call (h:DS toks rb tb cap w wr c nest no) {c' nest':Nat} {no':Bool} (hp:RP toks rb tb cap c' nest' no' w'.heap) (hf:Fr [rb] wr w'):DS toks rb tb cap w w' c' nest' no':=⟨h.pl,h.tl,hp,h.fr.trans hf⟩
end
theorem QS.start {toks:List Tok} {tb cap:Nat} {w:World} (ht:∃ cur,w.heap[tb]? = some (.cells cur 999999999)∧cur.toList.take (3 * toks.length)=tokCells toks) :
 QS toks tb cap w (w.alloc (.cells #[.slice (some ⟨tb,0,none⟩) toks.length cap, .int .i64 0, .int .i64 0, .bool false] 999999999)) 0 false (.slice none 0 0) [] []:=by
 obtain ⟨cur,hc,hcc⟩:=ht
 have hlt:=heap_lt hc
 exact ⟨hlt,by simp,⟨by omega,new_heap _ _,cur,old_heap _ hc,hcc⟩,(Below.refl _ _).alloc (Nat.le_refl _) _,World.ownsRow_nil _ _ _ _,rfl⟩
section
variable {toks:List Tok} {tb cap:Nat} {w wr:World} {a:Nat} {no:Bool} {v:Value} {acc:List It} {xs:List Value}
theorem QS.call (h:QS toks tb cap w wr a no v acc xs) {w':World} {b:Nat} {no':Bool} (hf:Fr [w.heap.size] wr w') (hp:RP toks w.heap.size tb cap b 0 no' w'.heap):QS toks tb cap w w' b no' v acc xs :=
 ⟨h.tl,by have:=h.lt;have:=hf.size;omega,hp,⟨hf.os.trans h.bl.os,hf.tape.trans h.bl.tape,hf.output.trans h.bl.output,Nat.le_trans h.bl.size hf.size,fun k hk=>(hf.block k (by have:=h.bl.size;omega) (by simp;omega)).trans (h.bl.block k hk)⟩,
  own_block h.own fun g hg hlt=>hf.block g hlt (by simp;omega),Its.later (Later.of_fr hf fun k hk e=>by have:=hk.1;omega) h.its⟩
theorem QS.drewN (h:QS toks tb cap w wr a no v acc xs) (n:Nat):QS toks tb cap w (wr.drewN n) a no v acc xs :=
 ⟨h.tl,h.lt,h.rp,⟨h.bl.os,h.bl.tape,h.bl.output,h.bl.size,h.bl.block⟩,h.own,Its.later (.of_below (below_drewN _ _)) h.its⟩
end
def wordsN:Nat→List UInt8→List (List UInt8)
 | 0,_ => []
 | _+1,[] => [[]]
 | f+1,c :: r =>
  if c.toNat=10 then wordsN f r
  else if c.toNat=32 then wordsN f r
  else if c.toNat=9 then wordsN f r
  else if c.toNat=35 then wordsN f ((c :: r).drop (comL (c :: r)))
  else (c :: r).take (tokL (c :: r)) :: wordsN f ((c :: r).drop (tokL (c :: r)))
theorem drop_of (s:ByteArray) (a:Nat):(s.extract a s.size).data.toList=s.data.toList.drop a:=by
 rw [←Lib.toList_data,Lib.extract_toList,List.take_of_length_le (by simp)]
theorem lexP_words (s:ByteArray):∀ (f a line ls:Nat),(lexP s f a line ls).map Tok.text=(wordsN f (s.data.toList.drop a)).map fun l=>⟨l.toArray⟩
 | 0,_,_,_=>rfl
 | f+1,a,line,ls=>by
  by_cases h:a < s.size
  · have hl:a < s.data.toList.length:=by simpa using h
    have e:s.data.toList.drop a=s[a] :: s.data.toList.drop (a+1):=by
     rw [List.drop_eq_getElem_cons hl,Array.getElem_toList];rfl
    have eT:tokP s a=tokL (s[a] :: s.data.toList.drop (a+1)):=by unfold tokP;rw [drop_of,e]
    have eC:comP s a=comL (s[a] :: s.data.toList.drop (a+1)):=by unfold comP;rw [drop_of,e]
    have ed:∀ n,(s[a] :: s.data.toList.drop (a+1)).drop n=s.data.toList.drop (a+n):=fun n=>by rw [←e,List.drop_drop]
    rw [lexP_step s f a line ls h,e]
    simp only [wordsN]
    split
    · exact lexP_words s f _ _ _
    · split
      · exact lexP_words s f _ _ _
      · split
        · exact lexP_words s f _ _ _
        · split
          · rw [lexP_words s f,ed,eC]
          · rw [List.map_cons,List.map_cons,lexP_words s f,ed,eT]
            congr 1
            apply ByteArray.ext
            apply Array.toList_inj.1
            rw [←eT,←e,←Lib.toList_data,Lib.extract_toList]
            show (s.data.toList.drop a).take (a+tokP s a - a)=(s.data.toList.drop a).take (tokP s a)
            rw [Nat.add_sub_cancel_left]
  · have hl : s.data.toList.length ≤ a := by have : s.data.toList.length = s.size := Array.length_toList
                                             omega
    rw [lexP_end s f a line ls h,List.drop_of_length_le hl]
    rfl
theorem comL_pos {c:UInt8} {r:List UInt8} (h:c.toNat=35):1≤comL (c :: r):=by
 have hne:(c != 10)=true:=by
  rw [bne_iff_ne];intro e;rw [e] at h;simp at h
 simp [comL,List.takeWhile,hne]
theorem wordsN_fuel:∀ (n f g:Nat) (l:List UInt8),l.length≤n→l.length < f→l.length < g→wordsN f l=wordsN g l
 | n,0,g,l,_,h,_=>by omega
 | n,f+1,0,l,_,_,h=>by omega
 | n,f+1,g+1,[],_,_,_=>rfl
 | 0,f+1,g+1,c :: r,h,_,_=>by simp at h
 | n+1,f+1,g+1,c :: r,h,h1,h2=>by
  simp only [List.length_cons] at h h1 h2
  have hd:∀ k,1≤k→((c :: r).drop k).length≤r.length:=fun k hk=>by simp;omega
  have ht:=(tokL_bd c r).1
  simp only [wordsN]
  rw [wordsN_fuel n f g r (by omega) (by omega) (by omega),wordsN_fuel n f g ((c :: r).drop (tokL (c :: r))) (by have:=hd _ ht;omega) (by have:=hd _ ht;omega) (by have:=hd _ ht;omega)]
  by_cases hc:c.toNat=35
  · have hk:=comL_pos (r:=r) hc
    rw [wordsN_fuel n f g ((c :: r).drop (comL (c :: r))) (by have:=hd _ hk;omega) (by have:=hd _ hk;omega) (by have:=hd _ hk;omega)]
  · simp only [if_neg hc]
def words (l:List UInt8):List (List UInt8):=wordsN (l.length+1) l
theorem lexAll_words (s:ByteArray):(lexAll s).map Tok.text=(words s.data.toList).map fun l=>⟨l.toArray⟩:=by
 unfold lexAll words
 rw [lexP_words,List.drop_zero]
 have:s.data.toList.length=s.size:=Array.length_toList
 rw [this]
theorem words_nil:words [] = [[]]:=rfl
theorem words_blank {c:UInt8} (h:c.toNat=10∨c.toNat=32∨c.toNat=9) (r:List UInt8):words (c :: r)=words r:=by
 show wordsN (r.length+1+1) (c :: r)=wordsN (r.length+1) r
 simp only [wordsN]
 rcases h with h | h | h <;> simp [h]
theorem words_tok {c:UInt8} (h1:c.toNat≠10) (h2:c.toNat≠32) (h3:c.toNat≠9) (h4:c.toNat≠35) (r:List UInt8):words (c :: r)=(c :: r).take (tokL (c :: r)) :: words ((c :: r).drop (tokL (c :: r))):=by
 have ht:=tokL_bd c r
 show wordsN (r.length+1+1) (c :: r)=_
 simp only [wordsN,if_neg h1,if_neg h2,if_neg h3,if_neg h4]
 congr 1
 exact wordsN_fuel r.length _ _ _ (by simp;omega) (by simp;omega) (by omega)
theorem runL_app {p:Int→Bool}:∀ (l r:List UInt8),(∀ c∈l,p c.toNat=true)→(∀ c,r.head? = some c→p c.toNat=false)→runL p (l ++ r)=l.length
 | [],[],_,_=>rfl
 | [],c :: r,_,h=>by
  have:=h c rfl
  simp [runL,this]
 | x :: l,r,h1,h2=>by
  have ih:=runL_app l r (fun c hc=>h1 c (List.mem_cons_of_mem _ hc)) h2
  have hx:=h1 x (by simp)
  unfold runL at ih ⊢
  rw [List.cons_append,List.takeWhile_cons,if_pos hx,List.length_cons,ih];rfl
theorem words_let {c:UInt8} {l r:List UInt8} (h1:∀ x∈c :: l,isLetB x.toNat=true) (h2:∀ x,r.head? = some x→isLetB x.toNat=false):words (c :: (l ++ r))=(c :: l) :: words r:=by
 have hc:=h1 c (by simp)
 have hb:97≤c.toNat:=by
  have:=hc
  simp only [isLetB,Bool.and_eq_true,decide_eq_true_eq] at this
  omega
 have ht:tokL (c :: (l ++ r))=(c :: l).length:=by
  unfold tokL
  simp only [hc,if_true]
  exact runL_app (c :: l) r h1 h2
 rw [words_tok (by omega) (by omega) (by omega) (by omega),ht]
 rw [show c :: (l ++ r)=(c :: l) ++ r from rfl,List.take_left,List.drop_left]
theorem words_dig {c:UInt8} {l r:List UInt8} (h1:∀ x∈c :: l,isDigB x.toNat=true) (h2:∀ x,r.head? = some x→isDigB x.toNat=false):words (c :: (l ++ r))=(c :: l) :: words r:=by
 have hc:=h1 c (by simp)
 have hb:48≤c.toNat∧c.toNat≤57:=by
  have:=hc
  simp only [isDigB,Bool.and_eq_true,decide_eq_true_eq] at this
  omega
 have hn:isLetB c.toNat=false:=by
  unfold isLetB
  simp only [Bool.and_eq_false_iff,decide_eq_false_iff_not]
  omega
 have ht:tokL (c :: (l ++ r))=(c :: l).length:=by
  unfold tokL
  simp only [hn,hc,if_true]
  exact runL_app (c :: l) r h1 h2
 rw [words_tok (by omega) (by omega) (by omega) (by omega),ht]
 rw [show c :: (l ++ r)=(c :: l) ++ r from rfl,List.take_left,List.drop_left]
theorem words_sign {c:UInt8} {r:List UInt8} (h1:isLetB c.toNat=false) (h2:isDigB c.toNat=false) (h3:Lib.hasPrefix (c :: r) [61,61]=false) (h4:c.toNat≠10∧c.toNat≠32∧c.toNat≠9∧c.toNat≠35):words (c :: r) = [c] :: words r:=by
 have ht:tokL (c :: r)=1:=by unfold tokL;simp [h1,h2,h3]
 rw [words_tok h4.1 h4.2.1 h4.2.2.1 h4.2.2.2,ht];rfl
theorem words_eqs (r:List UInt8):words (61 :: 61 :: r) = [61,61] :: words r:=by
 have ht:tokL (61 :: 61 :: r)=2:=by
  unfold tokL
  have h1:isLetB ((61:UInt8).toNat)=false:=by decide
  have h2:isDigB ((61:UInt8).toNat)=false:=by decide
  have h3:Lib.hasPrefix (61 :: 61 :: r) [61,61]=true:=by simp [Lib.hasPrefix]
  simp only [h1,h2,h3];rfl
 rw [words_tok (by decide) (by decide) (by decide) (by decide),ht];rfl
end Go.Proofs.YthibodlojlkppaaGreatDoor
namespace Go.Proofs.YthibodlojlkppaaGreatDoor
open Go.RowKit
variable [DecidableEq K] [LawfulBEq Lk]
abbrev PEL:=Nat ⊕ Nat ⊕ Unit ⊕ Unit ⊕ Unit ⊕ Unit
def PEA:PEL→Type
 | .inl _=>Empty
 | .inr (.inl _)=>Empty
 | .inr (.inr _)=>Bool
structure PE where
 lab:PEL
 sub:PEA lab→PE
abbrev PE.num (n:Nat):PE:=⟨.inl n,Empty.elim⟩
abbrev PE.ref (k:Nat):PE:=⟨.inr (.inl k),Empty.elim⟩
abbrev PE.add (a b:PE):PE:=⟨.inr (.inr (.inl ())),two a b⟩
abbrev PE.mul (a b:PE):PE:=⟨.inr (.inr (.inr (.inl ()))),two a b⟩
abbrev PE.iteA (a b:PE):PE:=⟨.inr (.inr (.inr (.inr (.inl ())))),two a b⟩
abbrev PE.iteB (a b:PE):PE:=⟨.inr (.inr (.inr (.inr (.inr ())))),two a b⟩
def nmL (k:Nat):List UInt8:=[118,UInt8.ofNat (97+k)]
def nmB (k:Nat):ByteArray:=⟨(nmL k).toArray⟩
def dgL (n:Nat):List UInt8:=[UInt8.ofNat (48+n)]
def PE.t:PE→List UInt8
 | ⟨.inl n,_⟩=>dgL n
 | ⟨.inr (.inl k),_⟩=>nmL k
 | ⟨.inr (.inr (.inl _)),s'⟩=>40 :: ((s' false).t ++ (32 :: 43 :: 32 :: ((s' true).t ++ [41])))
 | ⟨.inr (.inr (.inr (.inl _))),s'⟩=>40 :: ((s' false).t ++ (41 :: 42 :: 40 :: ((s' true).t ++ [41])))
 | ⟨.inr (.inr (.inr (.inr (.inl _)))),s'⟩=>105 :: 102 :: 32 :: ((s' false).t ++ (32 :: 61 :: 61 :: 32 :: ((s' true).t ++ (32 :: 116 :: 104 :: 101 :: 110 :: 32 :: ((s' false).t ++ [32,101,108,115,101,32,49,32,101,110,100])))))
 | ⟨.inr (.inr (.inr (.inr (.inr _)))),s'⟩=>105 :: 102 :: 32 :: ((s' false).t ++ (32 :: 61 :: 61 :: 32 :: ((s' true).t ++ (32 :: 116 :: 104 :: 101 :: 110 :: 32 :: 49 :: 32 :: 101 :: 108 :: 115 :: 101 :: 32 :: ((s' true).t ++ [32,101,110,100])))))
def PE.w:PE→List (List UInt8)
 | ⟨.inl n,_⟩ => [dgL n]
 | ⟨.inr (.inl k),_⟩ => [nmL k]
 | ⟨.inr (.inr (.inl _)),s'⟩ => [40] :: ((s' false).w ++ ([43] :: ((s' true).w ++ [[41]])))
 | ⟨.inr (.inr (.inr (.inl _))),s'⟩ => [40] :: ((s' false).w ++ ([41] :: [42] :: [40] :: ((s' true).w ++ [[41]])))
 | ⟨.inr (.inr (.inr (.inr (.inl _)))),s'⟩ => [105,102] :: ((s' false).w ++ ([61,61] :: ((s' true).w ++ ([116,104,101,110] :: ((s' false).w ++ [[101,108,115,101],[49],[101,110,100]])))))
 | ⟨.inr (.inr (.inr (.inr (.inr _)))),s'⟩ => [105,102] :: ((s' false).w ++ ([61,61] :: ((s' true).w ++ ([116,104,101,110] :: [49] :: [101,108,115,101] :: ((s' true).w ++ [[101,110,100]])))))
def PE.x:PE→Ex
 | ⟨.inl n,_⟩ => .num n
 | ⟨.inr (.inl k),_⟩ => .nam (nmB k)
 | ⟨.inr (.inr (.inl _)),s'⟩ => .pair [43] (s' false).x (s' true).x
 | ⟨.inr (.inr (.inr (.inl _))),s'⟩ => .pair [42] (s' false).x (s' true).x
 | ⟨.inr (.inr (.inr (.inr (.inl _)))),s'⟩ => .choice (.pair [61,61] (s' false).x (s' true).x) (s' false).x (.num 1)
 | ⟨.inr (.inr (.inr (.inr (.inr _)))),s'⟩ => .choice (.pair [61,61] (s' false).x (s' true).x) (.num 1) (s' true).x
def PE.ok (m:Nat):PE→Prop
 | ⟨.inl n,_⟩=>n < 10
 | ⟨.inr (.inl k),_⟩=>k < m∧k < 10
 | ⟨.inr (.inr (.inl _)),s'⟩=>(s' false).ok m∧(s' true).ok m
 | ⟨.inr (.inr (.inr (.inl _))),s'⟩=>(s' false).ok m∧(s' true).ok m
 | ⟨.inr (.inr (.inr (.inr (.inl _)))),s'⟩=>(s' false).ok m∧(s' true).ok m
 | ⟨.inr (.inr (.inr (.inr (.inr _)))),s'⟩=>(s' false).ok m∧(s' true).ok m
def PE.dep:PE→Nat
 | ⟨.inl _,_⟩=>0
 | ⟨.inr (.inl _),_⟩=>0
 | ⟨.inr (.inr (.inl _)),s'⟩=>(s' false).dep+(s' true).dep+1
 | ⟨.inr (.inr (.inr (.inl _))),s'⟩=>(s' false).dep+(s' true).dep+1
 | ⟨.inr (.inr (.inr (.inr (.inl _)))),s'⟩=>(s' false).dep+(s' true).dep+1
 | ⟨.inr (.inr (.inr (.inr (.inr _)))),s'⟩=>(s' false).dep+(s' true).dep+1
def PE.fu:PE→Nat
 | ⟨.inl _,_⟩=>4
 | ⟨.inr (.inl _),_⟩=>4
 | ⟨.inr (.inr (.inl _)),s'⟩=>(s' false).fu+(s' true).fu+10
 | ⟨.inr (.inr (.inr (.inl _))),s'⟩=>(s' false).fu+(s' true).fu+10
 | ⟨.inr (.inr (.inr (.inr (.inl _)))),s'⟩=>(s' false).fu+(s' true).fu+10
 | ⟨.inr (.inr (.inr (.inr (.inr _)))),s'⟩=>(s' false).fu+(s' true).fu+10
def Nx (r:List UInt8):Prop:=∀ c,r.head? = some c→isLetB c.toNat=false∧isDigB c.toNat=false
theorem nx_cons {c:UInt8} {r:List UInt8} (h1:isLetB c.toNat=false) (h2:isDigB c.toNat=false):Nx (c :: r):=fun x hx=>by
 cases hx;exact ⟨h1,h2⟩
theorem dig_n:∀ {n:Nat},n < 10→isDigB (UInt8.ofNat (48+n)).toNat=true:=by decide
theorem let_k:∀ {k:Nat},k < 10→isLetB (UInt8.ofNat (97+k)).toNat=true:=by decide
theorem w_dg {n:Nat} (h:n < 10) {r:List UInt8} (hr:Nx r):words (dgL n ++ r)=dgL n :: words r :=
 words_dig (c:=UInt8.ofNat (48+n)) (l:=[]) (fun x hx=>by rw [List.mem_singleton.1 hx];exact dig_n h) fun x hx=>(hr x hx).2
theorem w_nm {k:Nat} (h:k < 10) {r:List UInt8} (hr:Nx r):words (nmL k ++ r)=nmL k :: words r :=
 words_let (c:=118) (l:=[UInt8.ofNat (97+k)]) (fun x hx=>by
  rcases List.mem_cons.1 hx with rfl | hx
  · decide
  · rw [List.mem_singleton.1 hx];exact let_k h) fun x hx=>(hr x hx).1
theorem w_sp (r:List UInt8):words (32 :: r)=words r:=words_blank (.inr (.inl (by decide))) r
theorem w_nl (r:List UInt8):words (10 :: r)=words r:=words_blank (.inl (by decide)) r
theorem w_lp (r:List UInt8):words (40 :: r) = [40] :: words r:=words_sign (by decide) (by decide) (by simp [Lib.hasPrefix,List.isPrefixOf]) (by decide)
theorem w_rp (r:List UInt8):words (41 :: r) = [41] :: words r:=words_sign (by decide) (by decide) (by simp [Lib.hasPrefix,List.isPrefixOf]) (by decide)
theorem w_st (r:List UInt8):words (42 :: r) = [42] :: words r:=words_sign (by decide) (by decide) (by simp [Lib.hasPrefix,List.isPrefixOf]) (by decide)
theorem w_pl (r:List UInt8):words (43 :: r) = [43] :: words r:=words_sign (by decide) (by decide) (by simp [Lib.hasPrefix,List.isPrefixOf]) (by decide)
theorem w_co (r:List UInt8):words (58 :: r) = [58] :: words r:=words_sign (by decide) (by decide) (by simp [Lib.hasPrefix,List.isPrefixOf]) (by decide)
theorem w_se (r:List UInt8):words (59 :: r) = [59] :: words r:=words_sign (by decide) (by decide) (by simp [Lib.hasPrefix,List.isPrefixOf]) (by decide)
theorem w_eq (r:List UInt8):words (61 :: 32 :: r) = [61] :: words (32 :: r):=words_sign (by decide) (by decide) (by simp [Lib.hasPrefix,List.isPrefixOf]) (by decide)
theorem w_kw {c:UInt8} {l r:List UInt8} (h:(c :: l).all (fun x=>isLetB x.toNat)=true) (hr:Nx r):words (c :: (l ++ r))=(c :: l) :: words r :=
 words_let (fun x hx=>List.all_eq_true.1 h x hx) fun x hx=>(hr x hx).1
theorem nx_sp {r:List UInt8}:Nx (32 :: r):=nx_cons (by decide) (by decide)
theorem nx_rp {r:List UInt8}:Nx (41 :: r):=nx_cons (by decide) (by decide)
theorem nx_se {r:List UInt8}:Nx (59 :: r):=nx_cons (by decide) (by decide)
theorem w_if (r:List UInt8):words (105 :: 102 :: 32 :: r) = [105,102] :: words r:=by
 rw [show (105 :: 102 :: 32 :: r:List UInt8)=105 :: ([102] ++ 32 :: r) from rfl,w_kw (by decide) nx_sp,w_sp]
theorem w_then (r:List UInt8):words (116 :: 104 :: 101 :: 110 :: 32 :: r) = [116,104,101,110] :: words r:=by
 rw [show (116 :: 104 :: 101 :: 110 :: 32 :: r:List UInt8)=116 :: ([104,101,110] ++ 32 :: r) from rfl,w_kw (by decide) nx_sp,w_sp]
theorem w_else (r:List UInt8):words (101 :: 108 :: 115 :: 101 :: 32 :: r) = [101,108,115,101] :: words r:=by
 rw [show (101 :: 108 :: 115 :: 101 :: 32 :: r:List UInt8)=101 :: ([108,115,101] ++ 32 :: r) from rfl,w_kw (by decide) nx_sp,w_sp]
theorem w_end {r:List UInt8} (hr:Nx r):words (101 :: 110 :: 100 :: r) = [101,110,100] :: words r:=by
 rw [show (101 :: 110 :: 100 :: r:List UInt8)=101 :: ([110,100] ++ r) from rfl,w_kw (by decide) hr]
theorem w_one (r:List UInt8):words (49 :: 32 :: r) = [49] :: words r:=by
 have:=w_dg (n:=1) (by decide) (nx_sp (r:=r))
 rw [w_sp] at this
 exact this
theorem PE.words {m:Nat}:∀ (e:PE),e.ok m→∀ (r:List UInt8),Nx r→Go.Proofs.YthibodlojlkppaaGreatDoor.words (e.t ++ r)=e.w ++ Go.Proofs.YthibodlojlkppaaGreatDoor.words r
 | ⟨.inl n,_⟩,h,r,hr=>w_dg h hr
 | ⟨.inr (.inl k),_⟩,h,r,hr=>w_nm h.2 hr
 | ⟨.inr (.inr (.inl _)),s'⟩,h,r,hr=>by
  simp only [PE.t,PE.w,List.cons_append,List.append_assoc,List.nil_append,two]
  rw [w_lp,PE.words (s' false) h.1 _ nx_sp,w_sp,w_pl,w_sp,PE.words (s' true) h.2 _ nx_rp,w_rp]
 | ⟨.inr (.inr (.inr (.inl _))),s'⟩,h,r,hr=>by
  simp only [PE.t,PE.w,List.cons_append,List.append_assoc,List.nil_append,two]
  rw [w_lp,PE.words (s' false) h.1 _ nx_rp,w_rp,w_st,w_lp,PE.words (s' true) h.2 _ nx_rp,w_rp]
 | ⟨.inr (.inr (.inr (.inr (.inl _)))),s'⟩,h,r,hr=>by
  simp only [PE.t,PE.w,List.cons_append,List.append_assoc,List.nil_append,two]
  rw [w_if,PE.words (s' false) h.1 _ nx_sp,w_sp,words_eqs,w_sp,PE.words (s' true) h.2 _ nx_sp,w_sp,w_then,PE.words (s' false) h.1 _ nx_sp,w_sp,w_else,w_one,w_end hr]
 | ⟨.inr (.inr (.inr (.inr (.inr _)))),s'⟩,h,r,hr=>by
  simp only [PE.t,PE.w,List.cons_append,List.append_assoc,List.nil_append,two]
  rw [w_if,PE.words (s' false) h.1 _ nx_sp,w_sp,words_eqs,w_sp,PE.words (s' true) h.2 _ nx_sp,w_sp,w_then,w_one,w_else,PE.words (s' true) h.2 _ nx_sp,w_sp,w_end hr]
def WAt (toks:List Tok):Nat→List (List UInt8)→Prop
 | _,[]=>True
 | a,x :: xs=>tx toks a=⟨x.toArray⟩∧WAt toks (a+1) xs
theorem WAt.app {toks:List Tok}:∀ {a:Nat} (xs:List (List UInt8)) {ys:List (List UInt8)},WAt toks a (xs ++ ys)↔WAt toks a xs∧WAt toks (a+xs.length) ys
 | a,[],ys=>by simp [WAt]
 | a,x :: xs,ys=>by
  rw [List.cons_append]
  simp only [WAt,List.length_cons]
  rw [WAt.app (a:=a+1) xs,show a+1+xs.length=a+(xs.length+1) by omega,and_assoc]
theorem wat_of (toks:List Tok):∀ (xs:List (List UInt8)) (a:Nat),(toks.drop a).map Tok.text=xs.map (fun l=>(⟨l.toArray⟩:ByteArray))→WAt toks a xs
 | [],_,_=>trivial
 | x :: xs,a,h=>by
  cases hd:toks.drop a with
  | nil=>rw [hd] at h;simp at h
  | cons t r =>
   rw [hd] at h
   simp only [List.map_cons,List.cons.injEq] at h
   refine ⟨?_,wat_of toks xs (a+1) ?_⟩
   · have:toks[a]? = some t:=by
      have:=congrArg (fun l=>l[0]?) hd
      simpa using this
     unfold tx
     rw [this]
     exact h.1
   · have:toks.drop (a+1)=r:=by rw [←List.drop_drop,hd];rfl
     rw [this];exact h.2
theorem wat_lex (s:ByteArray):WAt (lexAll s) 0 (words s.data.toList):=wat_of _ _ 0 (lexAll_words s)
theorem isT_at {toks:List Tok} {a:Nat} {x:List UInt8} (h:tx toks a=⟨x.toArray⟩) (l:List UInt8):isT toks a l=(x == l):=by
 unfold isT
 rw [h,Lib.toList_data]
theorem leaf_num {n:Nat} (h:n < 10):leafX ⟨(dgL n).toArray⟩=some (.num n):=by
 revert h;revert n
 have:∀ n < 10,leafX ⟨(dgL n).toArray⟩=some (.num n):=fun n h=>by
  rcases (show n=0∨n=1∨n=2∨n=3∨n=4∨n=5∨n=6∨n=7∨n=8∨n=9 by omega) with rfl | rfl | rfl | rfl | rfl | rfl | rfl | rfl | rfl | rfl <;> kernel_rfl
 exact fun {n} h=>this n h
theorem leaf_nam {k:Nat} (h:k < 10):leafX ⟨(nmL k).toArray⟩=some (.nam (nmB k)):=by
 rcases (show k=0∨k=1∨k=2∨k=3∨k=4∨k=5∨k=6∨k=7∨k=8∨k=9 by omega) with rfl | rfl | rfl | rfl | rfl | rfl | rfl | rfl | rfl | rfl <;> kernel_rfl
section
variable {toks:List Tok}
theorem PX_3leaf {f nest a:Nat} {acc v:Ex} {x:List UInt8} (h:tx toks a=⟨x.toArray⟩) (h1:(x == [40])=false) (h2:(x == [105,102])=false) (hv:leafX ⟨x.toArray⟩=some v):PX toks (f+1) 3 nest a acc=some (a+1,some v):=by
 simp only [PX,isT_at h,h1,h2,h,hv]
 simp
theorem PX_5no {f nest a:Nat} {acc:Ex} (h:isT toks a [42]=false):PX toks (f+1) 5 nest a acc=some (a,some acc):=by
 rw [PX,h]
 · rfl
 all_goals simp
theorem PX_4no {f nest a:Nat} {acc:Ex} (h:isT toks a [43]=false):PX toks (f+1) 4 nest a acc=some (a,some acc):=by
 rw [PX,h];rfl
theorem PX_2of {f nest a b:Nat} {acc x:Ex} (h:PX toks (f+1) 3 nest a (.tru true)=some (b,some x)) (hb:isT toks b [42]=false):PX toks (f+2) 2 nest a acc=some (b,some x):=by
 rw [PX,h]
 exact PX_5no hb
theorem PX_0of {f nest a b:Nat} {acc x:Ex} (h:PX toks (f+1) 2 nest a (.tru true)=some (b,some x)) (h1:isT toks b [43]=false) (h2:isT toks b [61,61]=false):PX toks (f+3) 0 nest a acc=some (b,some x):=by
 have e1:PX toks (f+2) 1 nest a (.tru true)=some (b,some x):=by
  rw [PX,h]
  exact PX_4no h1
 rw [PX,e1]
 simp only [andX,h2]
 rfl
theorem PX_0add {f nest a b c:Nat} {acc x y:Ex} (h:PX toks (f+2) 2 nest a (.tru true)=some (b,some x)) (h1:isT toks b [43]=true) (h2:PX toks (f+1) 2 nest (b+1) (.tru true)=some (c,some y)) (h3:isT toks c [43]=false) (h4:isT toks c [61,61]=false):PX toks (f+4) 0 nest a acc=some (c,some (.pair [43] x y)):=by
 have e1:PX toks (f+3) 1 nest a (.tru true)=some (c,some (.pair [43] x y)):=by
  rw [PX,h]
  show PX toks (f+2) 4 nest b x=_
  rw [PX,h1,if_pos rfl,h2]
  exact PX_4no h3
 rw [PX,e1]
 simp only [andX,h4]
 rfl
theorem PX_0eq {f nest a b c:Nat} {acc x y:Ex} (h:PX toks (f+1) 2 nest a (.tru true)=some (b,some x)) (h1:isT toks b [43]=false) (h2:isT toks b [61,61]=true) (h3:PX toks (f+1) 2 nest (b+1) (.tru true)=some (c,some y)) (h4:isT toks c [43]=false):PX toks (f+3) 0 nest a acc=some (c,some (.pair [61,61] x y)):=by
 have e1:PX toks (f+2) 1 nest a (.tru true)=some (b,some x):=by
  rw [PX,h]
  exact PX_4no h1
 have e2:PX toks (f+2) 1 nest (b+1) (.tru true)=some (c,some y):=by
  rw [PX,h3]
  exact PX_4no h4
 rw [PX,e1]
 simp only [andX,h2,if_true,e2]
theorem PX_3par {f nest a b:Nat} {acc x:Ex} (h0:isT toks a [40]=true) (hn:nest < 20) (h:PX toks f 0 (nest+1) (a+1) (.tru true)=some (b,some x)) (h1:isT toks b [41]=true):PX toks (f+1) 3 nest a acc=some (b+1,some x):=by
 rw [PX,h0,if_pos rfl,if_neg (by omega),h]
 simp only [andX,h1,if_true]
theorem PX_3if {f nest a b c d:Nat} {acc x y z:Ex} (h00:isT toks a [40]=false) (h0:isT toks a [105,102]=true) (hn:nest < 20) (h:PX toks f 0 (nest+1) (a+1) (.tru true)=some (b,some x)) (h1:isT toks b [116,104,101,110]=true)
 (h2:PX toks f 0 (nest+1) (b+1) (.tru true)=some (c,some y)) (h3:isT toks c [101,108,115,101]=true) (h4:PX toks f 0 (nest+1) (c+1) (.tru true)=some (d,some z)) (h5:isT toks d [101,110,100]=true):PX toks (f+1) 3 nest a acc=some (d+1,some (.choice x y z)):=by
 rw [PX,h00,if_neg (by simp),h0,if_pos rfl,if_neg (by omega),h]
 simp only [andX,h1,if_true,h2,h3,h4,h5]
def Stp (toks:List Tok) (b:Nat):Prop:=isT toks b [42]=false∧isT toks b [43]=false∧isT toks b [61,61]=false
theorem stp_at {b:Nat} {x:List UInt8} (h:tx toks b=⟨x.toArray⟩) (h1:(x == [42])=false) (h2:(x == [43])=false) (h3:(x == [61,61])=false):Stp toks b :=
 ⟨by rw [isT_at h,h1],by rw [isT_at h,h2],by rw [isT_at h,h3]⟩
theorem PE.fu_ge:∀ (e:PE),4≤e.fu:=fun e=>by rcases e with ⟨(n | n | n | n | n | n),s⟩ <;> simp [PE.fu];all_goals omega
theorem num_one {f nest a:Nat} (hw:tx toks a=⟨([49]:List UInt8).toArray⟩) (hs:Stp toks (a+1)) (hf:5≤f):PX toks f 0 nest a (.tru true)=some (a+1,some (.num 1)):=by
 obtain ⟨g,rfl⟩:∃ g,f=g+5:=⟨f - 5,by omega⟩
 refine PX_0of (f:=g+2) ?_ hs.2.1 hs.2.2
 exact PX_2of (f:=g+1) (PX_3leaf (x:=[49]) hw (by decide) (by decide) (leaf_num (n:=1) (by decide))) hs.1
theorem PE.read {m:Nat}:∀ (e:PE),e.ok m→∀ (f nest a:Nat),e.fu≤f→nest+e.dep < 20→WAt toks a e.w→isT toks (a+e.w.length) [42]=false→PX toks f 2 nest a (.tru true)=some (a+e.w.length,some e.x)
 | ⟨.inl n,_⟩,h,f,nest,a,hf,hn,hw,hs=>by
  obtain ⟨g,rfl⟩:∃ g,f=g+2:=⟨f - 2,by simp only [PE.fu,two] at hf;omega⟩
  refine PX_2of (PX_3leaf hw.1 ?_ ?_ (leaf_num h)) hs
  · have:=dig_n h
    cases hx:(dgL n == [40]) with
    | false=>rfl
    | true =>
     have e:=eq_of_beq hx
     simp only [dgL,List.cons.injEq,and_true] at e
     rw [e] at this;revert this;decide
  · simp [dgL]
 | ⟨.inr (.inl k),_⟩,h,f,nest,a,hf,hn,hw,hs=>by
  obtain ⟨g,rfl⟩:∃ g,f=g+2:=⟨f - 2,by simp only [PE.fu,two] at hf;omega⟩
  exact PX_2of (PX_3leaf hw.1 (by simp [nmL]) (by simp [nmL]) (leaf_nam h.2)) hs
 | ⟨.inr (.inr (.inl _)),s'⟩,h,f,nest,i,hf,hn,hw,hs=>by
  simp only [PE.fu,two] at hf
  simp only [PE.dep,two] at hn
  obtain ⟨g,rfl⟩:∃ g,f=g+10:=⟨f - 10,by omega⟩
  simp only [PE.w,WAt,List.length_cons,List.length_append,List.length_nil,two] at hw hs ⊢
  obtain ⟨h0,hw⟩:=hw
  rw [WAt.app] at hw
  obtain ⟨hA,hw⟩:=hw
  simp only [WAt] at hw
  obtain ⟨hP,hw⟩:=hw
  rw [WAt.app] at hw
  obtain ⟨hB,hw⟩:=hw
  simp only [WAt] at hw
  have eA:=PE.read (s' false) h.1 (g+6) (nest+1) (i+1) (by omega) (by omega) hA (by rw [isT_at hP];decide)
  have eB:=PE.read (s' true) h.2 (g+5) (nest+1) (i+1+(s' false).w.length+1) (by omega) (by omega) hB (by rw [isT_at hw.1];decide)
  have e0:=PX_0add (acc := .tru true) (f:=g+4) eA (by rw [isT_at hP];decide) eB (by rw [isT_at hw.1];decide) (by rw [isT_at hw.1];decide)
  have e3:=PX_3par (acc := .tru true) (f:=g+8) (by rw [isT_at h0];decide) (by omega) e0 (by rw [isT_at hw.1];decide)
  have e2:=PX_2of (acc := .tru true) (f:=g+8) e3 ((congrArg (fun z=>isT toks z [42]) (by omega)).trans hs)
  rw [e2]
  simp only [PE.x,Option.some.injEq,Prod.mk.injEq,and_true,two]
  omega
 | ⟨.inr (.inr (.inr (.inl _))),s'⟩,h,f,nest,i,hf,hn,hw,hs=>by
  simp only [PE.fu,two] at hf
  simp only [PE.dep,two] at hn
  obtain ⟨g,rfl⟩:∃ g,f=g+10:=⟨f - 10,by omega⟩
  simp only [PE.w,WAt,List.length_cons,List.length_append,List.length_nil,two] at hw hs ⊢
  obtain ⟨h0,hw⟩:=hw
  rw [WAt.app] at hw
  obtain ⟨hA,hw⟩:=hw
  simp only [WAt] at hw
  obtain ⟨hR,hS,hL,hw⟩:=hw
  rw [WAt.app] at hw
  obtain ⟨hB,hw⟩:=hw
  simp only [WAt] at hw
  have sR:=stp_at hR (by decide) (by decide) (by decide)
  have sR2:=stp_at hw.1 (by decide) (by decide) (by decide)
  have eA:=PX_0of (acc := .tru true) (f:=g+5) (PE.read (s' false) h.1 (g+6) (nest+1) (i+1) (by omega) (by omega) hA sR.1) sR.2.1 sR.2.2
  have eB:=PX_0of (acc := .tru true) (f:=g+4) (PE.read (s' true) h.2 (g+5) (nest+1) (i+1+(s' false).w.length+1+1+1) (by omega) (by omega) hB sR2.1) sR2.2.1 sR2.2.2
  have e3:=PX_3par (acc := .tru true) (f:=g+8) (by rw [isT_at h0];decide) (by omega) eA (by rw [isT_at hR];decide)
  have e3':=PX_3par (acc := .tru true) (f:=g+7) (by rw [isT_at hL];decide) (by omega) eB (by rw [isT_at hw.1];decide)
  have hlast:isT toks (i+1+(s' false).w.length+1+1+1+(s' true).w.length+1) [42]=false:=(congrArg (fun z=>isT toks z [42]) (by omega)).trans hs
  rw [PX,e3]
  show PX toks (g+9) 5 nest (i+1+(s' false).w.length+1) (s' false).x=_
  rw [PX]
  · rw [isT_at hS,if_pos (by decide),e3']
    show PX toks (g+8) 5 nest _ _=_
    rw [PX_5no hlast]
    simp only [PE.x,Option.some.injEq,Prod.mk.injEq,and_true,two]
    omega
  all_goals simp
 | ⟨.inr (.inr (.inr (.inr (.inl _)))),s'⟩,h,f,nest,i,hf,hn,hw,hs=>by
  simp only [PE.fu,two] at hf
  simp only [PE.dep,two] at hn
  obtain ⟨g,rfl⟩:∃ g,f=g+10:=⟨f - 10,by omega⟩
  simp only [PE.w,WAt,List.length_cons,List.length_append,List.length_nil,two] at hw hs ⊢
  obtain ⟨h0,hw⟩:=hw
  rw [WAt.app] at hw
  obtain ⟨hA,hw⟩:=hw
  simp only [WAt] at hw
  obtain ⟨hE,hw⟩:=hw
  rw [WAt.app] at hw
  obtain ⟨hB,hw⟩:=hw
  simp only [WAt] at hw
  obtain ⟨hT,hw⟩:=hw
  rw [WAt.app] at hw
  obtain ⟨hA2,hw⟩:=hw
  simp only [WAt] at hw
  obtain ⟨hL,hO,hD,_⟩:=hw
  have sL:=stp_at hL (by decide) (by decide) (by decide)
  have sD:=stp_at hD (by decide) (by decide) (by decide)
  have hfa:=PE.fu_ge (s' false)
  have eA:=PE.read (s' false) h.1 (g+6) (nest+1) (i+1) (by omega) (by omega) hA (by rw [isT_at hE];decide)
  have eB:=PE.read (s' true) h.2 (g+6) (nest+1) _ (by omega) (by omega) hB (by rw [isT_at hT];decide)
  have eC:=PX_0eq (acc := .tru true) (f:=g+5) eA (by rw [isT_at hE];decide) (by rw [isT_at hE];decide) eB (by rw [isT_at hT];decide)
  have eY:=PX_0of (acc := .tru true) (f:=g+5) (PE.read (s' false) h.1 (g+6) (nest+1) _ (by omega) (by omega) hA2 sL.1) sL.2.1 sL.2.2
  have eZ:=num_one (f:=g+8) (nest:=nest+1) hO sD (by omega)
  have e3:=PX_3if (acc := .tru true) (f:=g+8) (by rw [isT_at h0];decide) (by rw [isT_at h0];decide) (by omega) eC (by rw [isT_at hT];decide) eY (by rw [isT_at hL];decide) eZ (by rw [isT_at hD];decide)
  have e2:=PX_2of (acc := .tru true) (f:=g+8) e3 ((congrArg (fun z=>isT toks z [42]) (by omega)).trans hs)
  rw [e2]
  simp only [PE.x,Option.some.injEq,Prod.mk.injEq,and_true,two]
  omega
 | ⟨.inr (.inr (.inr (.inr (.inr _)))),s'⟩,h,f,nest,i,hf,hn,hw,hs=>by
  simp only [PE.fu,two] at hf
  simp only [PE.dep,two] at hn
  obtain ⟨g,rfl⟩:∃ g,f=g+10:=⟨f - 10,by omega⟩
  simp only [PE.w,WAt,List.length_cons,List.length_append,List.length_nil,two] at hw hs ⊢
  obtain ⟨h0,hw⟩:=hw
  rw [WAt.app] at hw
  obtain ⟨hA,hw⟩:=hw
  simp only [WAt] at hw
  obtain ⟨hE,hw⟩:=hw
  rw [WAt.app] at hw
  obtain ⟨hB,hw⟩:=hw
  simp only [WAt] at hw
  obtain ⟨hT,hO,hL,hw⟩:=hw
  rw [WAt.app] at hw
  obtain ⟨hB2,hw⟩:=hw
  simp only [WAt] at hw
  obtain ⟨hD,_⟩:=hw
  have sL:=stp_at hL (by decide) (by decide) (by decide)
  have sD:=stp_at hD (by decide) (by decide) (by decide)
  have hfa:=PE.fu_ge (s' false)
  have eA:=PE.read (s' false) h.1 (g+6) (nest+1) (i+1) (by omega) (by omega) hA (by rw [isT_at hE];decide)
  have eB:=PE.read (s' true) h.2 (g+6) (nest+1) _ (by omega) (by omega) hB (by rw [isT_at hT];decide)
  have eC:=PX_0eq (acc := .tru true) (f:=g+5) eA (by rw [isT_at hE];decide) (by rw [isT_at hE];decide) eB (by rw [isT_at hT];decide)
  have eY:=num_one (f:=g+8) (nest:=nest+1) hO sL (by omega)
  have eZ:=PX_0of (acc := .tru true) (f:=g+5) (PE.read (s' true) h.2 (g+6) (nest+1) _ (by omega) (by omega) hB2 sD.1) sD.2.1 sD.2.2
  have e3:=PX_3if (acc := .tru true) (f:=g+8) (by rw [isT_at h0];decide) (by rw [isT_at h0];decide) (by omega) eC (by rw [isT_at hT];decide) eY (by rw [isT_at hL];decide) eZ (by rw [isT_at hD];decide)
  have e2:=PX_2of (acc := .tru true) (f:=g+8) e3 ((congrArg (fun z=>isT toks z [42]) (by omega)).trans hs)
  rw [e2]
  simp only [PE.x,Option.some.injEq,Prod.mk.injEq,and_true,two]
  omega
theorem PE.expr {m:Nat} {e:PE} (h:e.ok m) (hf:e.fu≤1690) (hd:e.dep < 20) {a:Nat} (hw:WAt toks a e.w) (hs:Stp toks (a+e.w.length)):exprX toks a=(a+e.w.length,some e.x):=by
 unfold exprX
 rw [PX_0of (f:=1697) (PE.read e h 1698 0 a (by omega) (by omega) hw hs.1) hs.2.1 hs.2.2]
 rfl
end
end Go.Proofs.YthibodlojlkppaaGreatDoor

/-
  Every tree has its text. Ask: names joined. Ask: what is written. Ask: whole. An answer's text is not over long.
-/
import Derived.Test.YthibodlojlkppaaGreatDoorB19
import Derived.Test.YthibodlojlkppaaGreatDoorB21
import Derived.Test.YthibodlojlkppaaGreatDoorB25
import Derived.Test.YthibodlojlkppaaGreatDoorB26
import Derived.Test.YthibodlojlkppaaGreatDoorB27
import Derived.Test.YthibodlojlkppaaGreatDoorB35
import Derived.Test.YthibodlojlkppaaGreatDoorB36
import Derived.Test.YthibodlojlkppaaGreatDoorT01
import Derived.Test.YthibodlojlkppaaGreatDoorT02
set_option linter.unusedVariables false
set_option linter.unusedSectionVars false
set_option linter.unusedSimpArgs false
set_option maxRecDepth 100000
set_option maxHeartbeats 40000000

namespace Go.Proofs.YthibodlojlkppaaGreatDoor
open Go.RowKit
variable [DecidableEq K] [LawfulBEq Lk]
section
variable {P:Ex→Prop} {toks:List Tok}
theorem PX_all (hleaf:∀ a x,leafX (tx toks a)=some x→P x) (hpair:∀ op l r,(op = [43]∨op = [42]∨op = [61,61])→P l→P r→P (.pair op l r)) (hch:∀ c y n,P c→P y→P n→P (.choice c y n)) :
 ∀ (f tag nest a:Nat) (acc:Ex) (b:Nat) (x:Ex),PX toks f tag nest a acc=some (b,some x)→(4≤tag→P acc)→P x
 | 0,_,_,_,_,_,_,h,_=>by simp [PX] at h
 | f+1,0,nest,a,acc,b,x,h,_=>by
  simp only [PX] at h
  obtain ⟨c,y,h1,h2⟩:=andX_some h
  have q1:=PX_all hleaf hpair hch f 1 nest a _ c y h1 (by omega)
  split at h2
  · obtain ⟨d,z,h3,h4⟩:=andX_some h2
    have q2:=PX_all hleaf hpair hch f 1 nest (c+1) _ d z h3 (by omega)
    cases h4
    exact hpair _ _ _ (.inr (.inr rfl)) q1 q2
  · cases h2;exact q1
 | f+1,1,nest,a,acc,b,x,h,_=>by
  simp only [PX] at h
  obtain ⟨c,y,h1,h2⟩:=andX_some h
  exact PX_all hleaf hpair hch f 4 nest c _ b x h2 fun _=>PX_all hleaf hpair hch f 2 nest a _ c y h1 (by omega)
 | f+1,2,nest,a,acc,b,x,h,_=>by
  simp only [PX] at h
  obtain ⟨c,y,h1,h2⟩:=andX_some h
  exact PX_all hleaf hpair hch f 5 nest c _ b x h2 fun _=>PX_all hleaf hpair hch f 3 nest a _ c y h1 (by omega)
 | f+1,3,nest,a,acc,b,x,h,_=>by
  simp only [PX] at h
  split at h
  · split at h
    · cases h
    · obtain ⟨c,y,h1,h2⟩:=andX_some h
      have q1:=PX_all hleaf hpair hch f 0 (nest+1) (a+1) _ c y h1 (by omega)
      split at h2
      · cases h2;exact q1
      · cases h2
  · split at h
    · split at h
      · cases h
      · obtain ⟨c,y,h1,h2⟩:=andX_some h
        have q1:=PX_all hleaf hpair hch f 0 (nest+1) (a+1) _ c y h1 (by omega)
        split at h2
        · obtain ⟨d,z,h3,h4⟩:=andX_some h2
          have q2:=PX_all hleaf hpair hch f 0 (nest+1) (c+1) _ d z h3 (by omega)
          split at h4
          · obtain ⟨e,u,h5,h6⟩:=andX_some h4
            have q3:=PX_all hleaf hpair hch f 0 (nest+1) (d+1) _ e u h5 (by omega)
            split at h6
            · cases h6;exact hch _ _ _ q1 q2 q3
            · cases h6
          · cases h4
        · cases h2
    · cases hlf:leafX (tx toks a) with
      | none=>rw [hlf] at h;cases h
      | some v=>rw [hlf] at h;cases h;exact hleaf a _ hlf
 | f+1,4,nest,a,acc,b,x,h,hacc=>by
  simp only [PX] at h
  split at h
  · obtain ⟨c,y,h1,h2⟩:=andX_some h
    exact PX_all hleaf hpair hch f 4 nest c _ b x h2 fun _=>hpair _ _ _ (.inl rfl) (hacc (by omega)) (PX_all hleaf hpair hch f 2 nest (a+1) _ c y h1 (by omega))
  · cases h;exact hacc (by omega)
 | f+1,tag+5,nest,a,acc,b,x,h,hacc=>by
  simp only [PX] at h
  split at h
  · obtain ⟨c,y,h1,h2⟩:=andX_some h
    exact PX_all hleaf hpair hch f 5 nest c _ b x h2 fun _=>hpair _ _ _ (.inr (.inl rfl)) (hacc (by omega)) (PX_all hleaf hpair hch f 3 nest (a+1) _ c y h1 (by omega))
  · cases h;exact hacc (by omega)
theorem itemX_all (hx:∀ a b x,exprX toks a=(b,some x)→P x) {a b:Nat} {i:Itx} (h:itemX toks a=(b,some i)):∀ e,i.ex=some e→P e:=by
 have key:∀ k a,letX toks k a=(b,some i)→∀ e,i.ex=some e→P e:=by
  intro k a h e hi
  unfold letX at h
  split at h
  · split at h
    · split at h
      · split at h
        · split at h
          · rcases he:exprX toks (a+5) with ⟨c,r⟩
            rw [he] at h
            cases r with
            | none=>cases h
            | some x =>
             simp only at h
             split at h
             · cases h
               cases hi
               exact hx _ _ _ he
             · cases h
          · cases h
        · cases h
      · cases h
    · cases h
  · cases h
 unfold itemX at h
 split at h
 · unfold useX at h
   split at h
   · split at h
     · cases h;intro e he;cases he
     · cases h
   · cases h
 · split at h
   · exact key _ _ h
   · exact key _ _ h
theorem treeX_all (hleaf:∀ a x,leafX (tx toks a)=some x→P x) (hpair:∀ op l r,(op = [43]∨op = [42]∨op = [61,61])→P l→P r→P (.pair op l r)) (hch:∀ c y n,P c→P y→P n→P (.choice c y n)):∀ i∈(treeX toks).1,∀ e,i.ex=some e→P e:=by
 have hx:∀ a b x,exprX toks a=(b,some x)→P x:=fun a b x he=>by
  refine PX_all hleaf hpair hch 1700 0 0 a (.tru true) b _ ?_ (by omega)
  unfold exprX at he
  cases hp:PX toks 1700 0 0 a (.tru true) with
  | none=>rw [hp] at he;cases he
  | some q=>rw [hp] at he;exact congrArg some he
 have key:∀ (f a:Nat),∀ i∈(treeXP toks f a).1,∀ e,i.ex=some e→P e:=by
  intro f
  induction f with
  | zero=>intro a i hi;simp [treeXP] at hi
  | succ f ih =>
   intro a i hi
   unfold treeXP at hi
   split at hi
   · simp at hi
   · rcases h:itemX toks a with ⟨b,r⟩
     rw [h] at hi
     cases r with
     | none=>simp at hi
     | some j =>
      rcases List.mem_cons.1 hi with rfl | hi
      · exact itemX_all hx h
      · exact ih b i hi
 exact key _ _
end
def textE (e:Ex):ByteArray:=e.fold (fun n=>⟨(Lib.itoa n).toArray⟩) (fun b=>⟨(Lib.formatBool b).toArray⟩) (fun t=>t) (fun op l r=>pairT op l r) (fun c y n=>choiceT c y n)
def HasT (e:Ex):Prop:=Writes (encX e) (textE e)∧(textE e).size≤410 * sizeX e
theorem leaf_text {t:ByteArray} (ht:t.size≤400) {x:Ex} (h:leafX t=some x):HasT x:=by
 have hz:=shownT_size t ht
 unfold leafX at h
 split at h
 · cases h
   refine ⟨writes_truth _,?_⟩
   show (⟨(Lib.formatBool (t.toList == [116,114,117,101])).toArray⟩:ByteArray).size≤410 * 1
   generalize (t.toList == [116,114,117,101])=b
   cases b <;> decide
 · split at h
   · rename_i hn
     cases h
     have e:=(itoa_strip hn).2.2
     unfold shownT at hz
     rw [if_pos hn] at hz
     constructor
     · show Writes _ (⟨(Lib.itoa (numVal t)).toArray⟩:ByteArray)
       rw [e]
       exact writes_number hn
     · show (⟨(Lib.itoa (numVal t)).toArray⟩:ByteArray).size≤410 * 1
       rw [e]
       omega
   · split at h
     · cases h
       exact ⟨writes_name t,by show t.size≤410 * 1;omega⟩
     · cases h
theorem tx_sz {s:ByteArray} (hs:s.size≤400) (a:Nat):(tx (lexAll s) a).size≤400:=by
 unfold tx
 cases h:(lexAll s)[a]? with
 | none=>exact Nat.zero_le _
 | some t=>exact (tok_szs hs h).1
theorem hasT_all {s:ByteArray} (hs:s.size≤400):∀ i∈(treeX (lexAll s)).1,∀ e,i.ex=some e→HasT e:=by
 refine treeX_all (P:=HasT) (fun a x h=>leaf_text (tx_sz hs a) h) (fun op l r hop hl hr => ?_) fun c y n hc hy hn => ?_
 · obtain ⟨w1,z1⟩:=hl
   obtain ⟨w2,z2⟩:=hr
   refine ⟨writes_pair (op:=op) w1 w2,?_⟩
   have:op.length≤2:=by rcases hop with rfl | rfl | rfl <;> decide
   show (pairT op (textE l) (textE r)).size≤410 * (sizeX l+sizeX r+1)
   rw [pairT_size]
   omega
 · obtain ⟨w1,z1⟩:=hc
   obtain ⟨w2,z2⟩:=hy
   obtain ⟨w3,z3⟩:=hn
   refine ⟨writes_choice w1 w2 w3,?_⟩
   show (choiceT (textE c) (textE y) (textE n)).size≤410 * (sizeX c+sizeX y+sizeX n+1)
   rw [choiceT_size]
   omega
def lineX (i:Itx):ByteArray :=
 if i.kind=0 then itemU (decT i.num) ⟨#[58,117,115,101,32]⟩ i.name
 else itemL (decT i.num) (if i.kind=1 then ⟨#[58,108,101,116,32]⟩ else ⟨#[58,112,117,98,32]⟩) i.name i.typ (match i.ex with | some e=>textE e | none=>nob)
theorem nameB_le8 {t:ByteArray} (h:nameB t=true):t.size≤8:=by
 unfold nameB at h
 simp only [Bool.and_eq_true,decide_eq_true_eq] at h
 exact h.1.1.2
theorem itx_all {s:ByteArray} (hs:s.size≤400):∀ i∈(treeX (lexAll s)).1,ITx (itOf i) (lineX i):=by
 intro i hi
 have hk:=(treeX_ok (lexAll s)).1 i hi
 have hlen:=(lexWf s hs).1.le
 have hnum:i.num≤1000:=by have:=hk.num;omega
 have hn8:=nameB_le8 hk.name.1
 have hd:(decT i.num).size≤1001:=by have:=decT_size i.num;omega
 by_cases h0:i.kind=0
 · rw [show lineX i=itemU (decT i.num) ⟨#[58,117,115,101,32]⟩ i.name from if_pos h0]
   refine ⟨hnum,?_, .inl ⟨h0,?_,rfl⟩⟩
   · simp only [itemU,ByteArray.size_append,bsz1]
     have:(⟨#[58,117,115,101,32]⟩:ByteArray).size=5:=rfl
     simp only [List.length_cons,List.length_nil]
     omega
   · show exV i.ex=_
     rw [hk.use h0];rfl
 · obtain ⟨h12,hty,e,he,hsz,_⟩:=hk.let' h0
   obtain ⟨hw,hx⟩:=hasT_all hs i hi e he
   generalize hxe:textE e=x at hw hx
   have hty4:i.typ.size≤4:=by rcases hty with h | h <;> rw [h] <;> decide
   have hb:(410 * sizeX e)≤164410:=by omega
   have hex:(itOf i).ex=encX e:=by
    show exV i.ex=_
    rw [he];rfl
   have hz:∀ q:ByteArray,q.size=5→(itemL (decT i.num) q i.name i.typ x).size≤200000:=fun q hq=>by
    simp only [itemL,ByteArray.size_append,bsz1]
    simp only [List.length_cons,List.length_nil]
    omega
   have hl:lineX i=itemL (decT i.num) (if i.kind=1 then ⟨#[58,108,101,116,32]⟩ else ⟨#[58,112,117,98,32]⟩) i.name i.typ x:=by
    unfold lineX
    rw [if_neg h0,he]
    simp only [hxe]
   rcases h12 with h1 | h2
   · rw [hl,if_pos h1]
     exact ⟨hnum,hz _ rfl, .inr ⟨x,by rw [hex];exact hw, .inl ⟨h1,rfl⟩⟩⟩
   · rw [hl,if_neg (by omega)]
     exact ⟨hnum,hz _ rfl, .inr ⟨x,by rw [hex];exact hw, .inr ⟨h2,rfl⟩⟩⟩
theorem lineX_ok {s:ByteArray} (hs:s.size≤400) {i:Itx} (hi:i∈(treeX (lexAll s)).1):ITx (itOf i) (lineX i):=itx_all hs i hi
theorem lines_all {s:ByteArray} (hs:s.size≤400) {its:List Itx} (h:its=(treeX (lexAll s)).1):∀ (k:Nat) (i:It) (x:ByteArray),(its.map itOf)[k]? = some i→(its.map lineX)[k]? = some x→ITx i x:=by
 intro k i x h1 h2
 rw [List.getElem?_map] at h1 h2
 cases hk:its[k]? with
 | none=>rw [hk] at h1;cases h1
 | some j =>
  rw [hk] at h1 h2
  cases h1;cases h2
  exact lineX_ok hs (by rw [←h];exact List.mem_of_getElem? hk)
def txtV:V→ByteArray
 | .inr (.inr (.inr b))=>b
 | .inl l=>joinT (l.map tokT)
 | .inr (.inl (its,fl))=>treeT (its.map lineX) fl
 | .inr (.inr (.inl l))=>⟨(Lib.join (l.map fun b=>b.data.toList) [32]).toArray⟩
theorem bsz1' (l:List UInt8):(⟨l.toArray⟩:ByteArray).size=l.length:=by simp [ByteArray.size]
theorem join_le {m:Nat}:∀ (l:List (List UInt8)),(∀ x∈l,x.length≤m)→(Lib.join l [32]).length≤l.length * (m+1)
 | [],_=>by simp [Lib.join,List.intercalate]
 | [x],h=>by
  have:=h x (by simp)
  simp [Lib.join,List.intercalate];omega
 | x :: y :: l,h=>by
  have h1:=h x (by simp)
  have h2:=join_le (y :: l) fun z hz=>h z (List.mem_cons_of_mem _ hz)
  have e:Lib.join (x :: y :: l) [32]=x ++ ([32] ++ Lib.join (y :: l) [32]):=by simp [Lib.join,List.intercalate]
  rw [e]
  simp only [List.length_append,List.length_cons,List.length_nil] at h2 ⊢
  rw [Nat.add_mul]
  omega
theorem compact_mem {x:List UInt8} (l:List (List UInt8)) (h:x∈Lib.compact l):x∈l:=by
 unfold Lib.compact Lib.compactUpTo at h
 obtain ⟨j,hj,rfl⟩:=List.mem_map.1 h
 have hl:j < l.length:=List.mem_range.1 (List.mem_filter.1 hj).1
 have hl':j < l.toArray.size:=by simpa using hl
 rw [getElem!_pos l.toArray j hl']
 simp
theorem exp_short {s:ByteArray} {x:ByteArray} (h:x∈expX (treeX (lexAll s)).1):x.data.toList.length≤8:=by
 unfold expX at h
 obtain ⟨y,hy,rfl⟩:=List.mem_map.1 h
 have h1:=compact_mem _ hy
 rw [List.mem_mergeSort] at h1
 unfold pubsX at h1
 obtain ⟨i,hi,rfl⟩:=List.mem_map.1 h1
 have h2:=nameB_le8 ((treeX_ok (lexAll s)).1 i (List.mem_filter.1 hi).1).name.1
 simpa using h2
theorem joinC {O:Nat→Prop} {l:List ByteArray} {ao:Option Addr} {c:Nat} {w:World} (hr:Row O w 9 (.slice ao l.length c) l.length (l.map .string)) (hl:l.length≤401) (h8:∀ x∈l,x.data.toList.length≤8) :
 Calls Tryz.prog 42 #[.slice ao l.length c, .string ⟨#[32]⟩] w fun e w'=>e = .returned (.string (txtV (.x l)))∧Below w.heap.size w w':=by
 unfold txtV
 by_cases h0:l = []
 · subst h0
   refine (Tryz.strings_Join_none ao c ⟨#[32]⟩ w).mono ?_
   rintro e w' ⟨rfl,rfl⟩
   exact ⟨rfl,Below.refl _ _⟩
 · have hpos:0 < l.length:=List.length_pos_iff.2 h0
   have hcell:=row_strs hr
   obtain ⟨a1,c1,e1,hc,h2⟩:=hr
   obtain ⟨g,cur,h3,h4,h5,h6⟩:=h2 hpos
   injection e1 with e1 e2 e3
   rw [h3] at e1
   subst e1 e3
   have hJ:=join_le (m:=8) (l.map fun b=>b.data.toList) (fun x hx=>by
    obtain ⟨y,hy,rfl⟩:=List.mem_map.1 hx
    exact h8 y hy)
   rw [List.length_map] at hJ
   refine (Tryz.strings_Join g 0 c l ⟨#[32]⟩ w (fun j x hj => ?_) (heap_lt h5) (by omega) hc ?_).mono ?_
   · obtain ⟨g',e',hh⟩:=hcell j x hj
     injection e' with e'
     injection e' with e'
     rw [e',Nat.zero_add]
     exact hh
   · have:(l.length * 9)≤401 * 9:=Nat.mul_le_mul_right _ hl
     exact Nat.le_trans hJ (by omega)
   · rintro e w' ⟨rfl,hb⟩
     exact ⟨rfl,hb⟩
theorem pt_up {W0 w:World} (h:PT W0.heap.size W0) (hb:Below W0.heap.size W0 w):PT w.heap.size w:=fun w' h'=>h w' (below_seq hb h')
abbrev LKo (bs:Nat):Obj := .cells #[.pointer (some ⟨bs,1,none⟩), .slice none 0 0] 109
theorem looksC (bs:Nat) (w:World):Calls Tryz.prog 36 #[.pointer (some ⟨bs,1,none⟩)] w fun e w'=>e = .returned (.pointer (some ⟨w.heap.size,0,none⟩))∧w'=w.alloc (LKo bs):=by
 go_enter Tryz.func36,Tryz.ntmps36
 go_wp2
 go_ret
 exact ⟨rfl,rfl⟩
section
variable {W0:World} {E:Eng V} {bs:Nat} {fm:Value} {st st':St V} {L:Lay} {w:World} {nc:Bool} {lk':List Lk}
theorem ask_start (hG:ENG st L none bs fm w) (hM:FM W0 st.files L fm w):WS W0 w.heap.size bs w.heap.size fm st L (w.alloc (LKo bs)) st L [] (w.alloc (LKo bs)):=by
 have hb:=below_newK w (LKo bs)
 have hn:¬ L.own w.heap.size:=fun e=>by
  obtain ⟨q,sm,bg,kv,arr,hx⟩:=hG
  have:=hx.olt _ e;omega
 exact WS.start (hG.below hb) (hM.below hb) ⟨⟨.slice none 0 0,new_heap w (LKo bs),World.ownsRow_nil _ _ _ _,fun g hg=>by simp [Value.ownBlock] at hg⟩,hn,by simp,fun l hl=>by simp at hl,Nat.zero_le _⟩ hM.low.size hM.low.size
structure Wrote (W0:World) (bs:Nat) (fm:Value) (st:St V) (L:Lay) (w:World) (st':St V) (w':World):Prop where
 ex:∃ L',ENG st' L' none bs fm w'∧FM W0 st'.files L' fm w'∧Next st st' L L' w w'
theorem got_wrote {L':Lay} {w':World} (h:Got W0 w.heap.size bs w.heap.size fm st L (w.alloc (LKo bs)) st L (w.alloc (LKo bs)) st' L' lk' w'):Wrote W0 bs fm st L w st' w' :=
 ⟨L',h.s.e,h.s.m,h.n.next ((Next.refl st L w).below (below_newK w (LKo bs))) (Nat.le_refl _) (Nat.le_refl _)⟩
theorem Wrote.below {w1 w':World} (h:Wrote W0 bs fm st L w st' w1) (hb:Below w1.heap.size w1 w'):Wrote W0 bs fm st L w st' w':=by
 obtain ⟨L',a,b,c⟩:=h.ex
 exact ⟨L',a.below hb,b.below hb,c.below hb⟩
theorem write1C (hE:Eng0 W0 E bs fm) (hG:ENG st L none bs fm w) (hM:FM W0 st.files L fm w) {f nm b:ByteArray} (hm:fetC E nc ⟨1,f,nob⟩ [] st=some (.ok (.s b,lk'),st')) :
 Calls Tryz.prog 21 #[ptr bs, .int .i64 1, .string f, .string nm] w fun e w'=>e = .returned (.string b)∧Wrote W0 bs fm st L w st' w':=by
 have HK:=hid (knownW hE (ask_start hG hM) hm)
 clear hE hG hM hm
 go_enter Tryz.func21,Tryz.ntmps21
 go_wp2_with fail
 refine (looksC bs w).mono ?_
 rintro e w1 ⟨rfl,rfl⟩
 go_wp2_with fail
 refine HK.out.mono ?_
 rintro e w2 ⟨rfl,hq⟩
 have HQ:=hid hq
 clear hq
 go_wp2
 go_ret
 obtain ⟨L',hg⟩:=HQ.out
 exact ⟨rfl,got_wrote hg⟩
theorem write5C (hE:Eng0 W0 E bs fm) (hG:ENG st L none bs fm w) (hM:FM W0 st.files L fm w) {f nm b:ByteArray} (hm:fetC E nc ⟨5,f,nm⟩ [] st=some (.ok (.s b,lk'),st')) :
 Calls Tryz.prog 21 #[ptr bs, .int .i64 5, .string f, .string nm] w fun e w'=>e = .returned (.string b)∧Wrote W0 bs fm st L w st' w':=by
 have HK:=hid (findW hE (ask_start hG hM) hm)
 clear hE hG hM hm
 go_enter Tryz.func21,Tryz.ntmps21
 go_wp2_with fail
 refine (looksC bs w).mono ?_
 rintro e w1 ⟨rfl,rfl⟩
 go_wp2_with fail
 refine HK.out.mono ?_
 rintro e w2 ⟨rfl,hq⟩
 have HQ:=hid hq
 clear hq
 go_wp2
 go_ret
 obtain ⟨L',hg⟩:=HQ.out
 exact ⟨rfl,got_wrote hg⟩
theorem write6C (hE:Eng0 W0 E bs fm) (hG:ENG st L none bs fm w) (hM:FM W0 st.files L fm w) {f nm b:ByteArray} (hm:fetC E nc ⟨6,f,nm⟩ [] st=some (.ok (.s b,lk'),st')) :
 Calls Tryz.prog 21 #[ptr bs, .int .i64 6, .string f, .string nm] w fun e w'=>e = .returned (.string b)∧Wrote W0 bs fm st L w st' w':=by
 have HK:=hid (typeW hE (ask_start hG hM) hm)
 clear hE hG hM hm
 go_enter Tryz.func21,Tryz.ntmps21
 go_wp2_with fail
 refine (looksC bs w).mono ?_
 rintro e w1 ⟨rfl,rfl⟩
 go_wp2_with fail
 refine HK.out.mono ?_
 rintro e w2 ⟨rfl,hq⟩
 have HQ:=hid hq
 clear hq
 go_wp2
 go_ret
 obtain ⟨L',hg⟩:=HQ.out
 exact ⟨rfl,got_wrote hg⟩
theorem write7C (hE:Eng0 W0 E bs fm) (hG:ENG st L none bs fm w) (hM:FM W0 st.files L fm w) {f nm b:ByteArray} (hm:fetC E nc ⟨7,f,nm⟩ [] st=some (.ok (.s b,lk'),st')) :
 Calls Tryz.prog 21 #[ptr bs, .int .i64 7, .string f, .string nm] w fun e w'=>e = .returned (.string b)∧Wrote W0 bs fm st L w st' w':=by
 have HK:=hid (valueW hE (ask_start hG hM) hm)
 clear hE hG hM hm
 go_enter Tryz.func21,Tryz.ntmps21
 go_wp2_with fail
 refine (looksC bs w).mono ?_
 rintro e w1 ⟨rfl,rfl⟩
 go_wp2_with fail
 refine HK.out.mono ?_
 rintro e w2 ⟨rfl,hq⟩
 have HQ:=hid hq
 clear hq
 go_wp2
 go_ret
 obtain ⟨L',hg⟩:=HQ.out
 exact ⟨rfl,got_wrote hg⟩
theorem write8C (hE:Eng0 W0 E bs fm) (hG:ENG st L none bs fm w) (hM:FM W0 st.files L fm w) {f nm b:ByteArray} (hm:fetC E nc ⟨8,f,nob⟩ [] st=some (.ok (.s b,lk'),st')) :
 Calls Tryz.prog 21 #[ptr bs, .int .i64 8, .string f, .string nm] w fun e w'=>e = .returned (.string b)∧Wrote W0 bs fm st L w st' w':=by
 have HK:=hid (reportW hE (ask_start hG hM) hm)
 clear hE hG hM hm
 go_enter Tryz.func21,Tryz.ntmps21
 go_wp2_with fail
 refine (looksC bs w).mono ?_
 rintro e w1 ⟨rfl,rfl⟩
 go_wp2_with fail
 refine HK.out.mono ?_
 rintro e w2 ⟨rfl,hq⟩
 have HQ:=hid hq
 clear hq
 go_wp2
 go_ret
 obtain ⟨L',hg⟩:=HQ.out
 exact ⟨rfl,got_wrote hg⟩
theorem writeToksC {O:Nat→Prop} {l:List Tok} {s:ByteArray} {ao:Option Addr} {c:Nat} {w:World} (hr:Row O w 121 (.slice ao l.length c) l.length (tokCells l)) (hs:s.size≤400) (hl:l=lexAll s) (hp:PT w.heap.size w) :
 Calls Tryz.prog 38 #[.slice ao l.length c] w fun e w'=>e = .returned (.string (joinT (l.map tokT)))∧Below w.heap.size w w':=by
 have hw:=lexWf s hs
 rw [←hl] at hw
 have hsz:∀ (i:Nat) (t:Tok),l[i]? = some t→t.text.size≤400∧t.line≤1000∧t.col≤1000:=fun i t ht=>tok_szs hs (i:=i) (by rw [←hl];exact ht)
 clear hl
 obtain ⟨a1,c1,e1,_,h2⟩:=hr
 obtain ⟨g,cur,h3,h4,h5,h6⟩:=h2 hw.1.pos
 injection e1 with e1 e2 e3
 rw [h3] at e1
 subst e1
 have h7:cur.toList.take (3 * l.length)=tokCells l:=by rw [←tokCells_length l];exact h6
 exact writeTokens_any l hw.1.le hsz g c w ⟨cur,h5,h7⟩ hp
theorem write2C (hpt:PT W0.heap.size W0) (hE:Eng0 W0 E bs fm) (hG:ENG st L none bs fm w) (hM:FM W0 st.files L fm w) {f nm:ByteArray} {l:List Tok} (hm:fetC E nc ⟨2,f,nob⟩ [] st=some (.ok (.t l,lk'),st')) :
 Calls Tryz.prog 21 #[ptr bs, .int .i64 2, .string f, .string nm] w fun e w'=>e = .returned (.string (txtV (.t l)))∧Wrote W0 bs fm st L w st' w':=by
 have HK:=hid (tokensW hE (ask_start hG hM) hm)
 have HP:=hid hpt
 clear hE hG hM hm hpt
 unfold txtV
 go_enter Tryz.func21,Tryz.ntmps21
 go_wp2_with fail
 refine (looksC bs w).mono ?_
 rintro e w1 ⟨rfl,rfl⟩
 go_wp2_with fail
 refine HK.out.mono ?_
 rintro e w2 ⟨ao,c,rfl,L',hg,hr,s,hs,hl⟩
 have HG:=hid hg
 have HT:Hid (Calls Tryz.prog 38 #[.slice ao l.length c] w2 fun e w'=>e = .returned (.string (joinT (l.map tokT)))∧Below w2.heap.size w2 w'):=hid (writeToksC hr hs hl (pt_up HP.out hg.s.m.low))
 clear hg hr hl
 go_wp2_with fail
 refine HT.out.mono ?_
 rintro e w3 ⟨rfl,hb⟩
 have HB:=hid hb
 clear hb
 go_wp2
 go_ret
 exact ⟨rfl,(got_wrote HG.out).below HB.out⟩
theorem write3C (hpt:PT W0.heap.size W0) (hE:Eng0 W0 E bs fm) (hG:ENG st L none bs fm w) (hM:FM W0 st.files L fm w) {f nm:ByteArray} {its:List Itx} {fl:Option Nat} (hm:fetC E nc ⟨3,f,nob⟩ [] st=some (.ok (.r its fl,lk'),st')) :
 Calls Tryz.prog 21 #[ptr bs, .int .i64 3, .string f, .string nm] w fun e w'=>e = .returned (.string (txtV (.r its fl)))∧Wrote W0 bs fm st L w st' w':=by
 have HK:=hid (treeW hE (ask_start hG hM) (by simp) (by have:=hM.low.size;simp;omega) hm)
 have HP:=hid hpt
 clear hE hG hM hm hpt
 unfold txtV
 obtain ⟨z,hz⟩:∃ z:Int,faultV fl = .int .i64 z:=by cases fl <;> exact ⟨_,rfl⟩
 have HZ:=hid hz
 go_enter Tryz.func21,Tryz.ntmps21
 go_wp2_with fail
 refine (looksC bs w).mono ?_
 rintro e w1 ⟨rfl,rfl⟩
 go_wp2_with fail
 refine HK.out.mono ?_
 rw [hz]
 clear hz
 rintro e w2 ⟨ao,c,rfl,L',hg,hr,s,hs,hts⟩
 have HG:=hid hg
 have hl:=its_len hs hts
 have HT:Hid (Calls Tryz.prog 40 #[.agg #[.slice ao its.length c, .int .i64 z]] w2 fun e w'=>e = .returned (.string (treeT (its.map lineX) fl))∧Below w2.heap.size w2 w'):=hid (by
  have h:=writeTree_ao (its.map itOf) (its.map lineX) (by simp) (lines_all hs (by rw [←hts])) (by simpa using hl) fl (fun b hb=>by
   have h1:=treeX_fault (lexWf s hs).1 w2 b (by rw [←hts];exact hb)
   have h2:=(lexWf s hs).1.le
   omega) ao c w2 (fun hp=>by
   have hp':0 < its.length:=by simpa using hp
   obtain ⟨g,cur,h1,h2,h3⟩:=trow_at hr hp'
   exact ⟨g,cur,h1,h2,by simpa using h3⟩) (pt_up HP.out hg.s.m.low)
  rw [HZ.out,List.length_map] at h
  exact h)
 clear hg hr hts hl
 go_wp2_with fail
 refine HT.out.mono ?_
 rintro e w3 ⟨rfl,hb⟩
 have HB:=hid hb
 clear hb
 go_wp2
 go_ret
 exact ⟨rfl,(got_wrote HG.out).below HB.out⟩
theorem write4C (hE:Eng0 W0 E bs fm) (hG:ENG st L none bs fm w) (hM:FM W0 st.files L fm w) {f nm:ByteArray} {l:List ByteArray} (hm:fetC E nc ⟨4,f,nob⟩ [] st=some (.ok (.x l,lk'),st')) :
 Calls Tryz.prog 21 #[ptr bs, .int .i64 4, .string f, .string nm] w fun e w'=>e = .returned (.string (txtV (.x l)))∧Wrote W0 bs fm st L w st' w':=by
 have HK:=hid (exportsW hE (ask_start hG hM) hm)
 clear hE hG hM hm
 go_enter Tryz.func21,Tryz.ntmps21
 go_wp2_with fail
 refine (looksC bs w).mono ?_
 rintro e w1 ⟨rfl,rfl⟩
 go_wp2_with fail
 refine HK.out.mono ?_
 rintro e w2 ⟨ao,c,rfl,L',hg,hr,s,hs,hl⟩
 have HG:=hid hg
 have HT:=hid (joinC hr (by rw [hl];exact Nat.le_trans (expX_len _) (its_len hs (fl:=(treeX (lexAll s)).2) rfl)) (fun x hx=>exp_short (s:=s) (by rw [←hl];exact hx)))
 clear hg hr hl
 go_wp2_with fail
 refine HT.out.mono ?_
 rintro e w3 ⟨rfl,hb⟩
 have HB:=hid hb
 clear hb
 go_wp2
 go_ret
 exact ⟨rfl,(got_wrote HG.out).below HB.out⟩
end
section
variable {W0:World} {bs:Nat} {fm:Value} {st:St V} {L:Lay} {w:World}
structure At (W0:World) (bs:Nat) (fm:Value) (st:St V) (L:Lay) (w:World):Prop where
 e:ENG st L none bs fm w
 m:FM W0 st.files L fm w
theorem At.below (h:At W0 bs fm st L w) {w':World} (hb:Below w.heap.size w w'):At W0 bs fm st L w':=⟨h.e.below hb,h.m.below hb⟩
theorem At.next (h:At W0 bs fm st L w) {st':St V} {L':Lay} {w':World} (hE:ENG st' L' none bs fm w') (hN:Next st st' L L' w w') (hf:st'.files=st.files):At W0 bs fm st' L' w':=⟨hE,by rw [hf];exact h.m.next hN⟩
theorem next_drops {n:Nat} {st st':St V} (hd:Drops n st st') {L:Lay} {w w':World} (hf:FR L.own w w'):Next st st' L L w w':=by
 obtain ⟨_,h2,h3,_⟩:=drops_same hd
 exact ⟨fun k hk=>⟨fun e=>hk ((h3 k).1 e),rfl⟩,fun f hf=>⟨by rw [h2];exact hf,rfl⟩,fun b hb => .inl hb,hf⟩
theorem askBad (h:At W0 bs fm st L w) (kind:Int) (f nm:ByteArray) (hr:refX kind f nm≠0) :
 Calls Tryz.prog 9 #[ptr bs, .int .i64 kind, .string f, .string nm] w fun e w'=>e = .returned (.tuple #[.string nob, .int .i64 (refX kind f nm)])∧At W0 bs fm { st with began:=[] } L w':=by
 have HB:=hid (beginC h.e)
 have HA:=hid h
 obtain ⟨r,hrr⟩:∃ r,r=refX kind f nm:=⟨_,rfl⟩
 rw [←hrr] at hr
 have HC:=hid (fun W=>check_any kind f nm W)
 rw [←hrr] at HC ⊢
 clear h hrr
 go_enter Tryz.func9,Tryz.ntmps9
 go_wp2_with fail
 refine HB.out.mono ?_
 rintro e w1 ⟨rfl,hh⟩
 have H1:=hid hh.out
 clear hh
 go_wp2_with fail
 refine (HC.out w1).mono ?_
 rintro e w2 ⟨rfl,rfl⟩
 go_wp2
 go_ret2
 exact ⟨rfl,HA.out.next H1.out.1 H1.out.2 rfl⟩
theorem askGood (h:At W0 bs fm st L w) (kind:Int) (f nm:ByteArray) (hr:refX kind f nm=0) {t:ByteArray} (ht:t.size≤1099511627776) {st1:St V}
 (hw:∀ w1,At W0 bs fm { st with began:=[] } L w1→Calls Tryz.prog 21 #[ptr bs, .int .i64 kind, .string f, .string nm] w1 fun e w'=>e = .returned (.string t)∧Wrote W0 bs fm { st with began:=[] } L w1 st1 w') :
 Calls Tryz.prog 9 #[ptr bs, .int .i64 kind, .string f, .string nm] w fun e w'=>e = .returned (.tuple #[.string t, .int .i64 0])∧∃ st2 L2,Drops 40 st1 st2∧At W0 bs fm st2 L2 w':=by
 have HB:=hid (beginC h.e)
 have HA:=hid h
 have HC:=hid (fun W=>check_any kind f nm W)
 rw [hr] at HC
 have HW:=hid hw
 clear h hr hw
 go_enter Tryz.func9,Tryz.ntmps9
 go_wp2_with fail
 refine HB.out.mono ?_
 rintro e w1 ⟨rfl,hh⟩
 have H1:=hid (HA.out.next hh.out.1 hh.out.2 rfl)
 clear hh
 go_wp2_with fail
 refine (HC.out w1).mono ?_
 rintro e w2 ⟨rfl,rfl⟩
 go_wp2_with fail
 refine (HW.out _ H1.out).mono ?_
 rintro e w3 ⟨rfl,⟨L3,hE3,hM3,hN3⟩⟩
 have H3:=hid (show At W0 bs fm st1 L3 w3 from ⟨hE3,hM3⟩)
 clear hE3 hM3 hN3
 go_wp2_with fail
 refine (keepC H3.out.e).mono ?_
 rintro e w4 ⟨rfl,st2,hd,hE4,hF4⟩
 have H4:=hid (show Drops 40 st1 st2∧At W0 bs fm st2 L3 w4 from ⟨hd,H3.out.next hE4 (next_drops hd hF4) (drops_same hd).1⟩)
 clear hd hE4 hF4
 go_wp2_with fail
 refine (cloneB t w4 ht).mono ?_
 rintro e w5 ⟨rfl,hb⟩
 have HB5:=hid hb
 clear hb
 go_wp2
 go_ret2
 exact ⟨rfl,st2,L3,H4.out.1,H4.out.2.below HB5.out⟩
end
section
variable {F:Txt} {v:ByteArray→ByteArray→ByteArray} {fs:List ByteArray}
theorem decX_sizeK (n:Nat):(decX n).size≤n+1:=by
 have:decX n=decT n:=itoa_nat n
 rw [this];exact decT_size n
theorem nob_size:nob.size=0:=rfl
theorem worse_sizeK (x:ByteArray):(worse nob x).size≤5:=by
 unfold worse
 split
 · rename_i h
   have hp:0 < grav x:=Nat.lt_of_le_of_lt (Nat.zero_le _) h
   unfold grav at hp
   split at hp
   · rename_i e;rw [eqB_is.1 e];decide
   · split at hp
     · rename_i e;rw [eqB_is.1 e];decide
     · split at hp
       · rename_i e;rw [eqB_is.1 e];decide
       · omega
 · rw [nob_size];omega
theorem wrong_size (f:ByteArray) (its:List Itx) (i:Itx):(wrongF F v f its i).size≤10:=by
 unfold wrongF
 split
 · split <;> decide
 · split
   · decide
   · split
     · decide
     · have:=worse_sizeK (v f i.name);omega
theorem tell_size (h:FOk F fs) (f:ByteArray) (num:Nat) (word out:ByteArray) (hw:word.size≤10):(tellF (toksF F f) num word out).size≤out.size+3000:=by
 unfold tellF
 split
 · omega
 · split
   · omega
   · rename_i t ht
     have hz:=tok_szs (h.txt f) ht
     have h1:=decX_sizeK t.line
     have h2:=decX_sizeK t.col
     unfold tellT
     simp only [ByteArray.size_append,bsz1,List.length_cons,List.length_nil]
     omega
theorem items_size (h:FOk F fs) (f:ByteArray) (its:List Itx):∀ (l:List Itx) (out:ByteArray),(itemsF F v f (toksF F f) its l out).size≤out.size+l.length * 3000
 | [],out=>by simp [itemsF]
 | i :: r,out=>by
  unfold itemsF
  have h1:=items_size h f its r (tellF (toksF F f) i.num (wrongF F v f its i) out)
  have h2:=tell_size h f i.num (wrongF F v f its i) out (wrong_size f its i)
  simp only [List.length_cons]
  omega
theorem report_size (h:FOk F fs) (f:ByteArray):(reportF F v f).size≤2000000:=by
 have h1:=h.its f
 have h2:=items_size (v:=v) h f (treeF F f).1 (treeF F f).1 nob
 rw [nob_size] at h2
 unfold reportF
 split
 · omega
 · rename_i b hb
   have h4:=tell_size h f b syn_ (itemsF F v f (toksF F f) (treeF F f).1 (treeF F f).1 nob) (by decide)
   omega
theorem val_size {x:ByteArray} (hx:valOk x=true):x.size≤400:=by
 unfold valOk at hx
 simp only [Bool.or_eq_true] at hx
 rcases hx with (((((hx | hx) | hx) | hx) | hx) | hx) | hx
 · have:=(numB_digs hx).2.1;omega
 all_goals rw [eqB_is.1 hx];decide
theorem type_size (f nm:ByteArray):(typeF F f nm).size≤400:=by
 rcases typeF_range (F:=F) f nm with h | h | h | h <;> rw [h] <;> decide
theorem find_size (h:FOk F fs) {f:ByteArray} (hf:f.size≤400) (nm:ByteArray):(findF F f nm).size≤400:=by
 rcases h.find f nm with h1 | h1 | h1 | h1
 · rw [h1];exact hf
 · rw [h1];decide
 · rw [h1];decide
 · exact h.sz _ h1
theorem ans_size (w:World) (h:FOk F fs) (hv:ValsOf F v) {k:K} (hf:k.file.size≤400):(txtV (ansF F v k)).size≤1099511627776:=by
 obtain ⟨kd,f,nm⟩:=k
 unfold ansF
 simp only at hf ⊢
 split
 · simp only [txtV]
   split <;> decide
 split
 · unfold txtV
   have h1:=joinT_size ((toksF F f).map tokT) 3000 (fun s hs=>by
    obtain ⟨t,ht,rfl⟩:=List.mem_map.1 hs
    obtain ⟨i,hi⟩:=List.getElem?_of_mem ht
    have hz:=tok_szs (h.txt f) hi
    have h1:=decT_size t.line
    have h2:=decT_size t.col
    simp only [tokT,ByteArray.size_append,bsz1,List.length_cons,List.length_nil]
    omega)
   have h2:=h.toks f
   rw [List.length_map] at h1
   have h3:(toksF F f).length * 3001≤401 * 3001:=Nat.mul_le_mul_right _ h2
   simp only
   omega
 split
 · unfold txtV
   have h1:=cat_size ((treeF F f).1.map lineX) 200000 (fun s hs=>by
    obtain ⟨i,hi,rfl⟩:=List.mem_map.1 hs
    exact (lineX_ok (h.txt f) hi).2.1)
   rw [List.length_map] at h1
   have h2:(treeF F f).1.length * 200000≤401 * 200000:=Nat.mul_le_mul_right _ (h.its f)
   simp only
   cases hfl:(treeF F f).2 with
   | none=>simp only [treeT];omega
   | some b =>
    have h3:=h.fault w f b hfl
    have h4:=decT_size b
    have h5:=h.toks f
    simp only [treeT,ByteArray.size_append,bsz1,List.length_cons,List.length_nil]
    omega
 split
 · unfold txtV
   have h1:=join_le (m:=8) ((expF F f).map fun b=>b.data.toList) (fun x hx=>by
    obtain ⟨y,hy,rfl⟩:=List.mem_map.1 hx
    exact exp_short (s:=(F f).getD nob) hy)
   rw [List.length_map] at h1
   have h2:(expF F f).length≤401:=Nat.le_trans (expX_len _) (h.its f)
   have h3:(expF F f).length * 9≤401 * 9:=Nat.mul_le_mul_right _ h2
   simp only
   rw [bsz1']
   omega
 split
 · have:=find_size h hf nm;simp only [txtV];omega
 split
 · have:=type_size (F:=F) f nm;simp only [txtV];omega
 split
 · have:=val_size (x:=v f nm) (by rw [hv.eq];exact value_ok _ _ _)
   simp only [txtV];omega
 · have:=report_size (v:=v) h f;simp only [txtV];omega
end
end Go.Proofs.YthibodlojlkppaaGreatDoor

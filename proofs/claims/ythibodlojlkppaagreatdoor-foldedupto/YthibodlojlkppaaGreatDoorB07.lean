/-
  The language in plain terms: exprs, items; what each question's work is. A row that stands as a heap does.
-/
import Derived.Test.YthibodlojlkppaaGreatDoorB06
import Derived.Lib.SlicesCompact
set_option linter.unusedVariables false
set_option linter.unusedSectionVars false
set_option linter.unusedSimpArgs false
set_option maxRecDepth 100000
set_option maxHeartbeats 40000000

namespace Go.Proofs.YthibodlojlkppaaGreatDoor
open Go.RowKit
variable [DecidableEq K] [LawfulBEq Lk]
def memB (l:List ByteArray) (x:ByteArray):Bool:=l.any fun y=>eqB y x
abbrev ExL:=Int ⊕ Bool ⊕ ByteArray ⊕ List UInt8 ⊕ Unit
def ExA:ExL→Type
 | .inl _=>Empty
 | .inr (.inl _)=>Empty
 | .inr (.inr (.inl _))=>Empty
 | .inr (.inr (.inr (.inl _)))=>Bool
 | .inr (.inr (.inr (.inr _)))=>Option Bool
structure Ex where
 lab:ExL
 sub:ExA lab→Ex
abbrev Ex.num (n:Int):Ex:=⟨.inl n,Empty.elim⟩
abbrev Ex.tru (b:Bool):Ex:=⟨.inr (.inl b),Empty.elim⟩
abbrev Ex.nam (t:ByteArray):Ex:=⟨.inr (.inr (.inl t)),Empty.elim⟩
def two {α:Type} (l r:α):Bool→α
 | false=>l
 | true=>r
def three {α:Type} (c y n:α):Option Bool→α
 | none=>c
 | some false=>y
 | some true=>n
abbrev Ex.pair (op:List UInt8) (l r:Ex):Ex:=⟨.inr (.inr (.inr (.inl op))),two l r⟩
abbrev Ex.choice (c y n:Ex):Ex:=⟨.inr (.inr (.inr (.inr ()))),three c y n⟩
theorem Ex.ind {P:Ex→Prop} (h1:∀ n,P (.num n)) (h2:∀ b,P (.tru b)) (h3:∀ t,P (.nam t)) (h4:∀ op l r,P l→P r→P (.pair op l r)) (h5:∀ c y n,P c→P y→P n→P (.choice c y n)):∀ e,P e
 | ⟨.inl n,s⟩=>by rw [show s=Empty.elim from funext fun x=>x.elim];exact h1 n
 | ⟨.inr (.inl n),s⟩=>by rw [show s=Empty.elim from funext fun x=>x.elim];exact h2 n
 | ⟨.inr (.inr (.inl n)),s⟩=>by rw [show s=Empty.elim from funext fun x=>x.elim];exact h3 n
 | ⟨.inr (.inr (.inr (.inl op))),s⟩=>by
  rw [show s=two (s false) (s true) from funext fun x=>by cases x <;> rfl]
  exact h4 op _ _ (Ex.ind h1 h2 h3 h4 h5 (s false)) (Ex.ind h1 h2 h3 h4 h5 (s true))
 | ⟨.inr (.inr (.inr (.inr ()))),s⟩=>by
  rw [show s=three (s none) (s (some false)) (s (some true)) from funext fun x=>match x with | none=>rfl | some false=>rfl | some true=>rfl]
  exact h5 _ _ _ (Ex.ind h1 h2 h3 h4 h5 (s none)) (Ex.ind h1 h2 h3 h4 h5 (s (some false))) (Ex.ind h1 h2 h3 h4 h5 (s (some true)))
def encX:Ex→Value
 | ⟨.inl n,_⟩ => .iface 197 (.int .i64 n)
 | ⟨.inr (.inl b),_⟩ => .iface 290 (.bool b)
 | ⟨.inr (.inr (.inl t)),_⟩ => .iface 291 (.string t)
 | ⟨.inr (.inr (.inr (.inl op))),s'⟩=>mkPair ⟨⟨op⟩⟩ (encX (s' false)) (encX (s' true))
 | ⟨.inr (.inr (.inr (.inr _))),s'⟩=>mkChoice (encX (s' none)) (encX (s' (some false))) (encX (s' (some true)))
def leafX (t:ByteArray):Option Ex :=
 if (t.toList == [116,114,117,101]) || (t.toList == [102,97,108,115,101]) then some (.tru (t.toList == [116,114,117,101]))
 else if numB t then some (.num (numVal t))
 else if nameB t then some (.nam t) else none
abbrev PRX:=Option (Nat × Option Ex)
def andX (p:PRX) (k:Nat→Ex→PRX):PRX :=
 match p with
 | none=>none
 | some (b,none)=>some (b,none)
 | some (b,some x)=>k b x
def PX (toks:List Tok):Nat→Nat→Nat→Nat→Ex→PRX
 | 0,_,_,_,_=>none
 | f+1,0,nest,a,_=>andX (PX toks f 1 nest a (.tru true)) fun b x =>
  if isT toks b [61,61] then andX (PX toks f 1 nest (b+1) (.tru true)) fun c y=>some (c,some (.pair [61,61] x y)) else some (b,some x)
 | f+1,1,nest,a,_=>andX (PX toks f 2 nest a (.tru true)) fun b x=>PX toks f 4 nest b x
 | f+1,2,nest,a,_=>andX (PX toks f 3 nest a (.tru true)) fun b x=>PX toks f 5 nest b x
 | f+1,3,nest,a,_ =>
  if isT toks a [40] then
   if nest=20 then some (a,none) else andX (PX toks f 0 (nest+1) (a+1) (.tru true)) fun b x=>if isT toks b [41] then some (b+1,some x) else some (b,none)
  else if isT toks a [105,102] then
   if nest=20 then some (a,none) else andX (PX toks f 0 (nest+1) (a+1) (.tru true)) fun b x =>
    if isT toks b [116,104,101,110] then andX (PX toks f 0 (nest+1) (b+1) (.tru true)) fun c y =>
     if isT toks c [101,108,115,101] then andX (PX toks f 0 (nest+1) (c+1) (.tru true)) fun d z =>
      if isT toks d [101,110,100] then some (d+1,some (.choice x y z)) else some (d,none)
     else some (c,none)
    else some (b,none)
  else match leafX (tx toks a) with
   | some v=>some (a+1,some v)
   | none=>some (a,none)
 | f+1,4,nest,a,acc=>if isT toks a [43] then andX (PX toks f 2 nest (a+1) (.tru true)) fun b y=>PX toks f 4 nest b (.pair [43] acc y) else some (a,some acc)
 | f+1,_,nest,a,acc=>if isT toks a [42] then andX (PX toks f 3 nest (a+1) (.tru true)) fun b y=>PX toks f 5 nest b (.pair [42] acc y) else some (a,some acc)
structure Itx where
 kind:Nat
 num:Nat
 name:ByteArray
 typ:ByteArray
 ex:Option Ex
def exV:Option Ex→Value
 | none => .nilIface
 | some e=>encX e
def itOf (i:Itx):It:=⟨i.kind,i.num,i.name,i.typ,exV i.ex⟩
def exprX (toks:List Tok) (a:Nat):Nat × Option Ex:=(PX toks 1700 0 0 a (.tru true)).getD (a,none)
def useX (toks:List Tok) (a:Nat):Nat × Option Itx :=
 if nameB (tx toks a) then (if isT toks (a+1) [59] then (a+2,some ⟨0,a,tx toks a,⟨#[]⟩,none⟩) else (a+1,none)) else (a,none)
def letX (toks:List Tok) (k a:Nat):Nat × Option Itx :=
 if isT toks a [108,101,116] then
  if nameB (tx toks (a+1)) then
   if isT toks (a+2) [58] then
    if isTy toks (a+3) then
     if isT toks (a+4) [61] then
      match exprX toks (a+5) with
      | (b,none)=>(b,none)
      | (b,some x)=>if isT toks b [59] then (b+1,some ⟨k,a+1,tx toks (a+1),tx toks (a+3),some x⟩) else (b,none)
     else (a+4,none)
    else (a+3,none)
   else (a+2,none)
  else (a+1,none)
 else (a,none)
def itemX (toks:List Tok) (a:Nat):Nat × Option Itx :=
 if isT toks a [117,115,101] then useX toks (a+1) else if isT toks a [112,117,98] then letX toks 2 (a+1) else letX toks 1 a
def treeXP (toks:List Tok):Nat→Nat→List Itx × Option Nat
 | 0,_=>([],none)
 | f+1,a=>if eqB (tx toks a) ⟨#[]⟩ then ([],none) else
  match itemX toks a with
  | (b,none)=>([],some b)
  | (b,some i)=>(i :: (treeXP toks f b).1,(treeXP toks f b).2)
def treeX (toks:List Tok):List Itx × Option Nat:=treeXP toks toks.length 0
def encR (p:PRX):PR:=p.map fun q=>(q.1,q.2.map encX)
theorem leaf_enc (t:ByteArray):leafV t=(leafX t).map encX:=by
 unfold leafV leafX
 split
 · rfl
 · split
   · rfl
   · split <;> rfl
theorem and_enc {p:PRX} {k:Nat→Value→PR} {k':Nat→Ex→PRX} (h:∀ b x,k b (encX x)=encR (k' b x)):andP (encR p) k=encR (andX p k'):=by
 match p with
 | none=>rfl
 | some (b,none)=>rfl
 | some (b,some x)=>exact h b x
theorem P_enc (toks:List Tok):∀ (f tag nest a:Nat) (v:Value) (x:Ex),(4≤tag→v=encX x)→P toks f tag nest a v=encR (PX toks f tag nest a x)
 | 0,_,_,_,_,_,_=>by simp [P,PX,encR]
 | f+1,0,nest,a,v,x,h=>by
  simp only [P,PX]
  rw [P_enc toks f 1 nest a .nilIface (.tru true) (by omega)]
  refine and_enc fun b x => ?_
  split
  · rw [P_enc toks f 1 nest (b+1) .nilIface (.tru true) (by omega)]
    exact and_enc fun c y=>rfl
  · rfl
 | f+1,1,nest,a,v,x,h=>by
  simp only [P,PX]
  rw [P_enc toks f 2 nest a .nilIface (.tru true) (by omega)]
  exact and_enc fun b x=>P_enc toks f 4 nest b _ x fun _=>rfl
 | f+1,2,nest,a,v,x,h=>by
  simp only [P,PX]
  rw [P_enc toks f 3 nest a .nilIface (.tru true) (by omega)]
  exact and_enc fun b x=>P_enc toks f 5 nest b _ x fun _=>rfl
 | f+1,3,nest,a,v,x,h=>by
  simp only [P,PX]
  have key:∀ b,P toks f 0 (nest+1) b .nilIface=encR (PX toks f 0 (nest+1) b (.tru true)):=fun b=>P_enc toks f 0 (nest+1) b .nilIface (.tru true) (by omega)
  split
  · split
    · rfl
    · rw [key]
      exact and_enc fun b x=>by split <;> rfl
  · split
    · split
      · rfl
      · rw [key]
        refine and_enc fun b x => ?_
        split
        · rw [key]
          refine and_enc fun c y => ?_
          split
          · rw [key]
            exact and_enc fun d z=>by split <;> rfl
          · rfl
        · rfl
    · rw [leaf_enc]
      cases leafX (tx toks a) <;> rfl
 | f+1,4,nest,a,v,x,h=>by
  have hv:=h (by omega)
  subst hv
  simp only [P,PX]
  split
  · rw [P_enc toks f 2 nest (a+1) .nilIface (.tru true) (by omega)]
    exact and_enc fun b y=>P_enc toks f 4 nest b _ _ fun _=>rfl
  · rfl
 | f+1,tag+5,nest,a,v,x,h=>by
  have hv:=h (by omega)
  subst hv
  simp only [P,PX]
  split
  · rw [P_enc toks f 3 nest (a+1) .nilIface (.tru true) (by omega)]
    exact and_enc fun b y=>P_enc toks f 5 nest b _ _ fun _=>rfl
  · rfl
theorem expr_enc (toks:List Tok) (a:Nat):exprP toks a=((exprX toks a).1,(exprX toks a).2.map encX):=by
 unfold exprP exprX
 rw [P_enc toks 1700 0 0 a .nilIface (.tru true) (by omega)]
 cases PX toks 1700 0 0 a (.tru true) <;> rfl
theorem use_enc (toks:List Tok) (a:Nat):useP toks a=((useX toks a).1,(useX toks a).2.map itOf):=by
 unfold useP useX
 split
 · split <;> rfl
 · rfl
theorem let_enc (toks:List Tok) (k a:Nat):letP toks k a=((letX toks k a).1,(letX toks k a).2.map itOf):=by
 unfold letP letX
 rw [expr_enc]
 split
 · split
   · split
     · split
       · split
         · rcases exprX toks (a+5) with ⟨b,r⟩
           cases r with
           | none=>rfl
           | some x=>simp only [Option.map_some];split <;> rfl
         · rfl
       · rfl
     · rfl
   · rfl
 · rfl
theorem item_enc (toks:List Tok) (a:Nat):itemP toks a=((itemX toks a).1,(itemX toks a).2.map itOf):=by
 unfold itemP itemX
 split
 · exact use_enc _ _
 · split <;> exact let_enc _ _ _
theorem treeP_enc (toks:List Tok):∀ (f a:Nat),treeP toks f a=((treeXP toks f a).1.map itOf,(treeXP toks f a).2)
 | 0,_=>rfl
 | f+1,a=>by
  unfold treeP treeXP
  rw [item_enc]
  split
  · rfl
  · rcases itemX toks a with ⟨b,r⟩
    cases r with
    | none=>rfl
    | some i =>
     simp only [Option.map_some,List.map_cons]
     rw [treeP_enc toks f b]
theorem tree_enc (toks:List Tok):treeAll toks=((treeX toks).1.map itOf,(treeX toks).2):=treeP_enc toks _ _
abbrev V:=List Tok ⊕ (List Itx × Option Nat) ⊕ List ByteArray ⊕ ByteArray
abbrev V.t (l:List Tok):V := .inl l
abbrev V.r (l:List Itx) (f:Option Nat):V := .inr (.inl (l,f))
abbrev V.x (l:List ByteArray):V := .inr (.inr (.inl l))
abbrev V.s (b:ByteArray):V := .inr (.inr (.inr b))
abbrev nob:ByteArray:=⟨#[]⟩
abbrev yes_:ByteArray:=⟨#[121,101,115]⟩
abbrev no_:ByteArray:=⟨#[110,111]⟩
abbrev none_:ByteArray:=⟨#[110,111,110,101]⟩
abbrev two_:ByteArray:=⟨#[116,119,111]⟩
abbrev bad_:ByteArray:=⟨#[98,97,100]⟩
abbrev cyc_:ByteArray:=⟨#[99,121,99,108,101]⟩
abbrev over_:ByteArray:=⟨#[111,118,101,114]⟩
abbrev int_:ByteArray:=⟨#[105,110,116]⟩
abbrev bool_:ByteArray:=⟨#[98,111,111,108]⟩
abbrev true_:ByteArray:=⟨#[116,114,117,101]⟩
abbrev false_:ByteArray:=⟨#[102,97,108,115,101]⟩
abbrev unk_:ByteArray:=⟨#[117,110,107,110,111,119,110]⟩
abbrev twice_:ByteArray:=⟨#[116,119,105,99,101]⟩
abbrev type_:ByteArray:=⟨#[116,121,112,101]⟩
abbrev syn_:ByteArray:=⟨#[115,121,110,116,97,120]⟩
def fileB (g:ByteArray):Bool:=nameB g && !eqB g none_ && !eqB g two_
def isNX (nm:ByteArray) (i:Itx):Bool:=!(i.kind == 0) && (i.name.toList == nm.toList)
def namedX (nm:ByteArray) (its:List Itx):List Itx:=its.filter (isNX nm)
def usesX:List Itx→List ByteArray→List ByteArray
 | [],acc=>acc
 | i :: r,acc=>if i.kind == 0 && !memB acc i.name then usesX r (acc ++ [i.name]) else usesX r acc
def namesX:Ex→List ByteArray→List ByteArray
 | ⟨.inl _,_⟩,l=>l
 | ⟨.inr (.inl _),_⟩,l=>l
 | ⟨.inr (.inr (.inl t)),_⟩,l=>if memB l t then l else l ++ [t]
 | ⟨.inr (.inr (.inr (.inl _))),s'⟩,l=>namesX (s' true) (namesX (s' false) l)
 | ⟨.inr (.inr (.inr (.inr _))),s'⟩,l=>namesX (s' (some true)) (namesX (s' (some false)) (namesX (s' none) l))
def onlyX (b:Bool) (k:ByteArray):ByteArray:=if b then k else nob
def typeX (M:ByteArray→ByteArray):Ex→ByteArray
 | ⟨.inl _,_⟩=>int_
 | ⟨.inr (.inl _),_⟩=>bool_
 | ⟨.inr (.inr (.inl t)),_⟩=>M t
 | ⟨.inr (.inr (.inr (.inl op))),s'⟩=>if eqB (typeX M (s' false)) (typeX M (s' true)) then (if op = [61,61] then onlyX (!eqB (typeX M (s' false)) nob) bool_ else onlyX (eqB (typeX M (s' false)) int_) int_) else nob
 | ⟨.inr (.inr (.inr (.inr _))),s'⟩=>onlyX (eqB (typeX M (s' none)) bool_ && eqB (typeX M (s' (some true))) (typeX M (s' (some false)))) (typeX M (s' (some false)))
def bndI (n:Int):Option Int:=if 999999999 < n then none else some n
def worthB (b:Bool):Int:=if b then 1 else 0
def reckX (M:ByteArray→Int):Ex→Option Int
 | ⟨.inl n,_⟩=>some n
 | ⟨.inr (.inl b),_⟩=>some (worthB b)
 | ⟨.inr (.inr (.inl t)),_⟩=>some (M t)
 | ⟨.inr (.inr (.inr (.inl op))),s'⟩ =>
  match reckX M (s' false),reckX M (s' true) with
  | some a,some b=>if op = [43] then bndI (a+b) else if op = [42] then bndI (a * b) else some (worthB (a == b))
  | _,_=>none
 | ⟨.inr (.inr (.inr (.inr _))),s'⟩ =>
  match reckX M (s' (some false)),reckX M (s' (some true)),reckX M (s' none) with
  | some b,some d,some a=>some (if a == 1 then b else d)
  | _,_,_=>none
def grav (v:ByteArray):Nat:=if eqB v cyc_ then 3 else if eqB v bad_ then 2 else if eqB v over_ then 1 else 0
def worse (fault v:ByteArray):ByteArray:=if grav fault < grav v then v else fault
def valOk (v:ByteArray):Bool:=numB v || eqB v true_ || eqB v false_ || eqB v cyc_ || eqB v bad_ || eqB v over_ || eqB v none_
def readW (v:ByteArray):Int:=if eqB v true_ then 1 else if numB v then numVal v else 0
def writeW (kd:ByteArray) (n:Int):ByteArray:=if eqB kd bool_ then (if n == 1 then true_ else false_) else ⟨(Lib.itoa n).toArray⟩
def getT (f:ByteArray) (c:List Tok→Prog V):Prog V := .get ⟨2,f,nob⟩ fun v=>match v with | .inl l=>c l | _ => .fail
def getR (f:ByteArray) (c:List Itx→Option Nat→Prog V):Prog V := .get ⟨3,f,nob⟩ fun v=>match v with | .inr (.inl (l,b))=>c l b | _ => .fail
def getX (f:ByteArray) (c:List ByteArray→Prog V):Prog V := .get ⟨4,f,nob⟩ fun v=>match v with | .inr (.inr (.inl l))=>c l | _ => .fail
def getS (k:K) (c:ByteArray→Prog V):Prog V := .get k fun v=>match v with | .inr (.inr (.inr b))=>c b | _ => .fail
def pubsX (its:List Itx):List (List UInt8):=(its.filter fun i=>i.kind == 2).map fun i=>i.name.data.toList
def expX (its:List Itx):List ByteArray:=(Lib.compact ((pubsX its).mergeSort fun x y=>decide (x≤y))).map fun x=>⟨x.toArray⟩
def usedP (nm:ByteArray) (c:ByteArray→Prog V):List ByteArray→ByteArray→Prog V
 | [],found=>c found
 | f :: fs,found=>getX f fun xs=>if memB xs nm then usedP nm c fs (if eqB found none_ then f else two_) else usedP nm c fs found
def wFind (f nm:ByteArray):Prog V:=getR f fun its _ =>
 match namedX nm its with
 | []=>usedP nm (fun r => .ret (.s r)) (usesX its []) none_
 | [_] => .ret (.s f)
 | _ => .ret (.s two_)
def saidP (f nm:ByteArray) (c:ByteArray→Prog V):Prog V:=getS ⟨5,f,nm⟩ fun g =>
 if fileB g then getR g fun its _=>match namedX nm its with | [i]=>c i.typ | _=>c nob else c nob
def typesP (f:ByteArray) (c:(ByteArray→ByteArray)→Prog V):List ByteArray→(ByteArray→ByteArray)→Prog V
 | [],M=>c M
 | n :: ns,M=>saidP f n fun t=>typesP f c ns fun x=>if x=n then t else M x
def wType (f nm:ByteArray):Prog V:=getR f fun its _ =>
 match namedX nm its with
 | [i]=>match i.ex with
  | none => .fail
  | some e=>typesP f (fun M => .ret (.s (if eqB (typeX M e) i.typ then i.typ else bad_))) (namesX e []) fun _=>nob
 | _ => .ret (.s none_)
def valuesP (f:ByteArray) (c:ByteArray→(ByteArray→Int)→Prog V):List ByteArray→ByteArray→(ByteArray→Int)→Prog V
 | [],fault,M=>c fault M
 | n :: ns,fault,M=>getS ⟨5,f,n⟩ fun g=>getS ⟨7,g,n⟩ fun v=>if valOk v then valuesP f c ns (worse fault v) (fun x=>if x=n then readW v else M x) else .fail
def valueEnd (e:Ex) (kd fault:ByteArray) (M:ByteArray→Int):ByteArray :=
 if eqB fault nob then (match reckX M e with | none=>over_ | some n=>writeW kd n) else fault
def wValue (f nm:ByteArray):Prog V:=getS ⟨6,f,nm⟩ fun kd =>
 if eqB kd none_ || eqB kd bad_ then .ret (.s kd) else getR f fun its _ =>
  match namedX nm its with
  | [] => .fail
  | i :: _=>match i.ex with
   | none => .fail
   | some e=>valuesP f (fun fault M => .ret (.s (valueEnd e kd fault M))) (namesX e []) nob fun _=>0
def wrongP (f:ByteArray) (its:List Itx) (i:Itx) (c:ByteArray→Prog V):Prog V :=
 if i.kind == 0 then getS ⟨1,i.name,nob⟩ fun v=>c (if eqB v yes_ then nob else unk_)
 else if 1 < (namedX i.name its).length then c twice_
 else getS ⟨6,f,i.name⟩ fun t=>if eqB t bad_ then c type_ else getS ⟨7,f,i.name⟩ fun v=>c (worse nob v)
def decX (n:Nat):ByteArray:=⟨(Lib.itoa (n:Int)).toArray⟩
def tellT (out:ByteArray) (t:Tok) (word:ByteArray):ByteArray:=out ++ ((((decX t.line ++ ⟨#[58]⟩) ++ decX t.col) ++ ⟨#[32]⟩ ++ word) ++ ⟨#[10]⟩)
def tellP (toks:List Tok) (num:Nat) (word out:ByteArray) (c:ByteArray→Prog V):Prog V :=
 if eqB word nob then c out else match toks[num]? with
  | none => .fail
  | some t=>c (tellT out t word)
def itemsP (f:ByteArray) (toks:List Tok) (its:List Itx) (c:ByteArray→Prog V):List Itx→ByteArray→Prog V
 | [],out=>c out
 | i :: r,out=>wrongP f its i fun word=>tellP toks i.num word out fun out'=>itemsP f toks its c r out'
def wReport (f:ByteArray):Prog V:=getT f fun toks=>getR f fun its fl =>
 itemsP f toks its (fun out=>match fl with | none => .ret (.s out) | some b=>tellP toks b syn_ out fun out' => .ret (.s out')) its nob
def wp (k:K):Prog V :=
 if k.kind=1 then .look k.file fun o => .ret (.s (if o.isSome then yes_ else no_))
 else if k.kind=2 then .look k.file fun o => .ret (.t (lexAll (o.getD nob)))
 else if k.kind=3 then getT k.file fun toks => .ret (.r (treeX toks).1 (treeX toks).2)
 else if k.kind=4 then getR k.file fun its _ => .ret (.x (expX its))
 else if k.kind=5 then wFind k.file k.name
 else if k.kind=6 then wType k.file k.name
 else if k.kind=7 then wValue k.file k.name
 else wReport k.file
end Go.Proofs.YthibodlojlkppaaGreatDoor
namespace Go.Proofs.YthibodlojlkppaaGreatDoor
section
variable {α:Type} [DecidableEq α]
def swapL (l:List α) (i j:Nat):List α :=
 match l[i]?,l[j]? with
 | some a,some b=>(l.set i b).set j a
 | _,_=>l
def uat (used:α→Nat) (l:List α) (i:Nat):Nat:=((l[i]?).map used).getD 0
theorem swapL_len (l:List α) (i j:Nat):(swapL l i j).length=l.length:=by
 unfold swapL;split <;> simp
theorem swapL_get {l:List α} {i j:Nat} (hi:i < l.length) (hj:j < l.length) (k:Nat):(swapL l i j)[k]? = if k=j then l[i]? else if k=i then l[j]? else l[k]?:=by
 have h1:=List.getElem?_eq_getElem hi
 have h2:=List.getElem?_eq_getElem hj
 unfold swapL
 rw [h1,h2]
 simp only [List.getElem?_set]
 by_cases h3:k=j
 · subst h3;simp [hj]
 · rw [if_neg (fun e=>h3 e.symm),if_neg h3]
   by_cases h4:k=i
   · subst h4;simp [hi]
   · rw [if_neg (fun e=>h4 e.symm),if_neg h4]
theorem swapL_perm (l:List α) (i j:Nat):(swapL l i j).Perm l:=by
 unfold swapL
 split
 · rename_i a b ha hb
   obtain ⟨hi,ea⟩:=List.getElem?_eq_some_iff.1 ha
   obtain ⟨hj,eb⟩:=List.getElem?_eq_some_iff.1 hb
   rw [List.perm_iff_count]
   intro x
   rw [List.count_set (by simpa using hj),List.count_set hi,ea]
   have hc:(l[i] == x)=true→1≤l.count x:=fun h=>by
    have:x∈l:=by rw [←eq_of_beq h];exact List.getElem_mem hi
    exact List.count_pos_iff.2 this
   rw [ea] at hc
   by_cases hij:i=j
   · subst hij
     rw [ea] at eb;subst eb
     simp only [List.getElem_set_self]
     split
     · rename_i h;have:=hc h;omega
     · omega
   · rw [List.getElem_set_ne hij,eb]
     split
     · rename_i h
       have:=hc h
       split
       · rename_i h2;have e:=(eq_of_beq h).trans (eq_of_beq h2).symm;simp;omega
       · simp;omega
     · split <;> simp
 · exact List.Perm.refl _
theorem uat_swap {used:α→Nat} {l:List α} {i j:Nat} (hi:i < l.length) (hj:j < l.length) (k:Nat):uat used (swapL l i j) k=if k=j then uat used l i else if k=i then uat used l j else uat used l k:=by
 unfold uat
 rw [swapL_get hi hj]
 split
 · rfl
 · split <;> rfl
def par (i:Nat):Nat:=(i - 1) / 2
def upL (used:α→Nat):Nat→List α→Nat→List α
 | 0,l,_=>l
 | f+1,l,j=>if par j=j then l else if uat used l j < uat used l (par j) then upL used f (swapL l (par j) j) (par j) else l
def child (used:α→Nat) (l:List α) (n i:Nat):Nat:=if 2 * i+2 < n∧uat used l (2 * i+2) < uat used l (2 * i+1) then 2 * i+2 else 2 * i+1
def downL (used:α→Nat) (n:Nat):Nat→List α→Nat→List α × Nat
 | 0,l,i=>(l,i)
 | f+1,l,i=>if n≤2 * i+1 then (l,i) else
  if uat used l (child used l n i) < uat used l i then downL used n f (swapL l i (child used l n i)) (child used l n i) else (l,i)
def HN (used:α→Nat) (l:List α) (n:Nat):Prop:=∀ i,i < n→uat used l (par i)≤uat used l i
theorem child_lt {used:α→Nat} {l:List α} {n i:Nat} (h:¬ n≤2 * i+1):child used l n i < n∧i < child used l n i∧(child used l n i=2 * i+1∨child used l n i=2 * i+2):=by
 unfold child
 split <;> omega
theorem up_ok {used:α→Nat}:∀ (f:Nat) (l:List α) (j:Nat),j < l.length→j < f→(∀ i,i < l.length→i≠j→uat used l (par i)≤uat used l i)→(∀ c,c < l.length→c≠j→par c=j→uat used l (par j)≤uat used l c)→HN used (upL used f l j) l.length
 | 0,l,j,_,hf,_,_=>by omega
 | f+1,l,j,hj,hf,h1,h2=>by
  unfold upL
  by_cases he:par j=j
  · rw [if_pos he]
    intro i hi
    by_cases hij:i=j
    · subst hij;rw [he];exact Nat.le_refl _
    · exact h1 i hi hij
  · rw [if_neg he]
    have hpj:par j < j:=by unfold par at he ⊢;omega
    have hi:par j < l.length:=by omega
    by_cases hlt:uat used l j < uat used l (par j)
    · rw [if_pos hlt]
      have hu:=fun k=>uat_swap (used:=used) hi hj k
      have hlen:=swapL_len l (par j) j
      have:=up_ok (used:=used) f (swapL l (par j) j) (par j) (by omega) (by omega) (fun k hk hne => ?_) (fun c hc hne hp => ?_)
      · rw [hlen] at this;exact this
      · rw [hu k,hu (par k),if_neg hne]
        rw [hlen] at hk
        by_cases hkj:k=j
        · subst hkj
          rw [if_neg he,if_pos rfl,if_pos rfl]
          omega
        · rw [if_neg hkj]
          by_cases h3:par k=j
          · rw [if_pos h3];exact h2 k hk hkj h3
          · rw [if_neg h3]
            by_cases h4:par k=par j
            · rw [if_pos h4]
              have:=h1 k hk hkj
              rw [h4] at this
              omega
            · rw [if_neg h4];exact h1 k hk hkj
      · rw [hlen] at hc
        have hpp:par (par j)≤par j:=by unfold par;omega
        rw [hu (par (par j)),hu c,if_neg (by omega:¬ par (par j)=j),if_neg hne]
        by_cases hcj:c=j
        · subst hcj
          rw [if_pos rfl]
          by_cases h4:par (par c)=par c
          · rw [if_pos h4];omega
          · rw [if_neg h4];exact h1 (par c) hi (by omega)
        · rw [if_neg hcj]
          have h5:=h1 c hc hcj
          rw [hp] at h5
          by_cases h4:par (par j)=par j
          · rw [if_pos h4];omega
          · rw [if_neg h4]
            have:=h1 (par j) hi (by omega)
            omega
    · rw [if_neg hlt]
      intro i hi2
      by_cases hij:i=j
      · subst hij;omega
      · exact h1 i hi2 hij
theorem down_ok {used:α→Nat} {n:Nat}:∀ (f:Nat) (l:List α) (i:Nat),n≤l.length→i < n→n≤f+i→(∀ k,k < n→k≠0→par k≠i→uat used l (par k)≤uat used l k)→(∀ c,c < n→c≠0→par c=i→i≠0→uat used l (par i)≤uat used l c)→HN used (downL used n f l i).1 n
 | 0,l,i,_,hi,hf,_,_=>by omega
 | f+1,l,i,hl,hi,hf,h1,h2=>by
  unfold downL
  have hch:∀ k,k≠0→par k=i→k=2 * i+1∨k=2 * i+2:=fun k h0 hp=>by unfold par at hp;omega
  by_cases hn:n≤2 * i+1
  · rw [if_pos hn]
    intro k hk
    by_cases h0:k=0
    · subst h0;exact Nat.le_refl _
    · exact h1 k hk h0 fun hp=>by have:=hch k h0 hp;omega
  · rw [if_neg hn]
    obtain ⟨hcn,hic,hcc⟩:=child_lt (used:=used) (l:=l) hn
    have hmin:∀ k,k < n→k≠0→par k=i→uat used l (child used l n i)≤uat used l k:=fun k hk h0 hp=>by
     have:=hch k h0 hp
     unfold child
     split
     · rename_i h
       rcases this with rfl | rfl
       · exact Nat.le_of_lt h.2
       · exact Nat.le_refl _
     · rename_i h
       rcases this with rfl | rfl
       · exact Nat.le_refl _
       · have:¬ (uat used l (2 * i+2) < uat used l (2 * i+1)):=fun e=>h ⟨hk,e⟩
         omega
    have hpc:par (child used l n i)=i:=by unfold par;omega
    generalize hcd:child used l n i=c at *
    by_cases hlt:uat used l c < uat used l i
    · rw [if_pos hlt]
      have hu:=fun k=>uat_swap (used:=used) (l:=l) (i:=i) (j:=c) (by omega) (by omega) k
      have hlen:=swapL_len l i c
      refine down_ok f (swapL l i c) c (by omega) hcn (by omega) (fun k hk h0 hp => ?_) (fun d hd h0 hp hc0 => ?_)
      · rw [hu k,hu (par k),if_neg hp]
        by_cases hkc:k=c
        · subst hkc
          rw [if_pos hpc,if_pos rfl]
          omega
        · rw [if_neg hkc]
          by_cases h3:par k=i
          · rw [if_pos h3]
            by_cases h4:k=i
            · subst h4;unfold par at h3;omega
            · rw [if_neg h4];exact hmin k hk h0 h3
          · rw [if_neg h3]
            by_cases h4:k=i
            · subst h4
              rw [if_pos rfl]
              exact h2 c hcn (by omega) hpc h0
            · rw [if_neg h4];exact h1 k hk h0 h3
      · rw [hpc,hu i,hu d,if_neg (by omega:¬ i=c),if_pos rfl]
        by_cases h4:d=c
        · subst h4;unfold par at hp;omega
        · rw [if_neg h4]
          by_cases h5:d=i
          · subst h5;unfold par at hp;omega
          · rw [if_neg h5]
            have:=h1 d hd h0 (by rw [hp];omega)
            rw [hp] at this
            exact this
    · rw [if_neg hlt]
      intro k hk
      show uat used l (par k)≤uat used l k
      by_cases h0:k=0
      · subst h0;exact Nat.le_refl _
      · by_cases hp:par k=i
        · have:=hmin k hk h0 hp
          rw [hp]
          omega
        · exact h1 k hk h0 hp
theorem upL_fuel (used:α→Nat):∀ (f g:Nat) (l:List α) (j:Nat),j < f→j < g→upL used f l j=upL used g l j
 | 0,g,l,j,h,_=>by omega
 | f+1,0,l,j,_,h=>by omega
 | f+1,g+1,l,j,hf,hg=>by
  unfold upL
  split
  · rfl
  · rename_i hne
    split
    · have:par j < j:=by unfold par at hne ⊢;omega
      exact upL_fuel used f g _ _ (by omega) (by omega)
    · rfl
theorem downL_fuel (used:α→Nat) (n:Nat):∀ (f g:Nat) (l:List α) (i:Nat),n≤f+i→n≤g+i→downL used n f l i=downL used n g l i
 | 0,0,_,_,_,_=>rfl
 | 0,g+1,l,i,h,_=>by
  unfold downL
  rw [if_pos (by omega)]
 | f+1,0,l,i,_,h=>by
  unfold downL
  rw [if_pos (by omega)]
 | f+1,g+1,l,i,hf,hg=>by
  unfold downL
  split
  · rfl
  · rename_i hn
    obtain ⟨_,hic,_⟩:=child_lt (used:=used) (l:=l) hn
    split
    · exact downL_fuel used n f g _ _ (by omega) (by omega)
    · rfl
def fixL (used:α→Nat) (l:List α) (i:Nat):List α :=
 if i < (downL used l.length l.length l i).2 then (downL used l.length l.length l i).1 else upL used (l.length+1) (downL used l.length l.length l i).1 i
theorem downL_stay {used:α→Nat} {n:Nat}:∀ (f:Nat) (l:List α) (i:Nat),(i≤(downL used n f l i).2)∧((downL used n f l i).2=i→(downL used n f l i).1=l)
 | 0,l,i=>⟨Nat.le_refl _,fun _=>rfl⟩
 | f+1,l,i=>by
  unfold downL
  by_cases hn:n≤2 * i+1
  · simp [hn]
  · rw [if_neg hn]
    obtain ⟨_,hic,_⟩:=child_lt (used:=used) (l:=l) hn
    split
    · have:=(downL_stay (used:=used) (n:=n) f (swapL l i (child used l n i)) (child used l n i)).1
      exact ⟨by omega,fun h=>by omega⟩
    · simp
theorem fix_ok {used used':α→Nat} {l:List α} (h:HN used l l.length) (hnd:l.Nodup) {i:Nat} {k:α} (hi:l[i]? = some k) (hne:∀ x,x≠k→used' x=used x):HN used' (fixL used' l i) l.length:=by
 obtain ⟨hil,hik⟩:=List.getElem?_eq_some_iff.1 hi
 have hoth:∀ j,j≠i→uat used' l j=uat used l j:=fun j hj=>by
  unfold uat
  cases hx:l[j]? with
  | none=>rfl
  | some x =>
   obtain ⟨hjl,hjx⟩:=List.getElem?_eq_some_iff.1 hx
   have:x≠k:=fun e=>hj ((List.getElem_inj hnd).1 (by rw [hjx,hik,e]))
   simp [hne x this]
 have hs:=downL_stay (used:=used') (n:=l.length) l.length l i
 have hp0:∀ c,c≠0→par c≠c:=fun c hc=>by unfold par;omega
 unfold fixL
 by_cases hlow:uat used l i≤uat used' l i
 · have hd:=down_ok (used:=used') (n:=l.length) l.length l i (Nat.le_refl _) hil (by omega) (fun c hc h0 hp=>by
    rw [hoth (par c) hp]
    have:=h c hc
    by_cases hci:c=i
    · subst hci;omega
    · rw [hoth c hci];exact this) (fun c hc h0 hp hi0=>by
    have h1:=h c hc
    have h2:=h i hil
    rw [hp] at h1
    have hci:c≠i:=fun e=>hp0 c h0 (by rw [hp,e])
    rw [hoth c hci,hoth (par i) (hp0 i hi0)]
    omega)
   split
   · exact hd
   · rename_i hnm
     have hst:(downL used' l.length l.length l i).1=l:=hs.2 (by omega)
     rw [hst] at hd ⊢
     exact up_ok _ _ _ hil (by omega) (fun c hc _=>hd c hc) fun c hc hci hp=>by
      have h1:=hd c hc
      have h2:=hd i hil
      rw [hp] at h1
      omega
 · have hst:downL used' l.length l.length l i=(l,i):=by
    obtain ⟨f,hf⟩:∃ f,l.length=f+1:=⟨l.length - 1,by omega⟩
    have:downL used' l.length (f+1) l i=(l,i):=by
     unfold downL
     by_cases hn:l.length≤2 * i+1
     · rw [if_pos hn]
     · rw [if_neg hn]
       obtain ⟨hcn,hic,hcc⟩:=child_lt (used:=used') (l:=l) hn
       rw [if_neg]
       rw [hoth _ (by omega)]
       have:=h _ hcn
       rw [show par (child used' l l.length i)=i from by unfold par;omega] at this
       omega
    rw [hf] at this ⊢
    exact this
   rw [hst]
   rw [if_neg (by simp)]
   show HN used' (upL used' (l.length+1) l i) l.length
   exact up_ok _ _ _ hil (by omega) (fun c hc hci=>by
    have h1:=h c hc
    rw [hoth c hci]
    by_cases hp:par c=i
    · rw [hp] at h1 ⊢
      show uat used' l i≤_
      omega
    · rw [hoth (par c) hp];exact h1) fun c hc hci hp=>by
      have h1:=h c hc
      have h2:=h i hil
      rw [hp] at h1
      rw [hoth c hci]
      by_cases hpi:par i=i
      · rw [hpi];omega
      · rw [hoth (par i) hpi];omega
end
end Go.Proofs.YthibodlojlkppaaGreatDoor

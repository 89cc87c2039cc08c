import Derived.Test.YthibodlojlkppaaGreatDoorRows
import Derived.Test.YthibodlojlkppaaGreatDoorZShelf
import Derived.WalkKit
import Derived.WalkSpells
import Derived.WalkLawsBesides
import Derived.Handy
import Derived.Deep.RegionWith
import Derived.Deep.QuietTactic
import Derived.BigQuiet
import Derived.Lib.Atoi
import Derived.Deep.LoopGhost
import Derived.Lib.AtoiErrMem
import Derived.Lib.SlicesCompact
set_option linter.all false
set_option maxRecDepth 100000
set_option maxHeartbeats 40000000
namespace Go.Proofs.YthibodlojlkppaaGreatDoor
open Go.RowKit
theorem hid{p:Prop}(h:p):Hid p:=h
theorem bG{a b:Bool}(h:a=b):Ending.returned (.bool a) = .returned (.bool b):=by rw[h]
theorem gD{k:IntKind}{a b:Int}(h:a=b):Ending.returned (.int k a) = .returned (.int k b):=by rw[h]
theorem aA{w:World}{b i:Nat}{cs:Array Value}{T:TypeId}{fr:Nat×Nat}(h:w.heap[b]? = some (.cells cs T fr)):w.cell? ⟨b,i,none⟩=cs[i]?:=by
 simp[World.cell?,h]
theorem aE{w:World}{b i:Nat}{cs:Array Value}{T:TypeId}(h:w.heap[b]? = some (.cells cs T)):w.frozen? ⟨b,i,none⟩=false:=by
 simp[World.frozen?,h]
theorem aH{w:World}{b i:Nat}{cs:Array Value}{T:TypeId}{fr:Nat×Nat}(h:w.heap[b]? = some (.cells cs T fr))(v:Value) :
 (w.setCell ⟨b,i,none⟩ v).heap[b]? = some (.cells (cs.setIfInBounds i v) T fr):=by
 simp[World.setCell,Array.getElem?_modify,h]
theorem aD{w:World}{b k i:Nat}(h:k≠b)(v:Value):(w.setCell ⟨b,i,none⟩ v).heap[k]? = w.heap[k]?:=Below.heap_setCell _ _ _ _ h
theorem aB{w:World}{b:Nat}{o:Obj}(h:w.heap[b]? = some o):b<w.heap.size:=(Array.getElem?_eq_some_iff.1 h).1
theorem below_heap{w w':World}{B:Nat}(hb:Below B w w'){b:Nat}{o:Obj}(hB:b<B)(h:w.heap[b]? = some o):w'.heap[b]? = some o:=by
 rw[hb.block b hB];exact h
theorem aI(w:World)(o:Obj):(w.alloc o).heap[w.heap.size]? = some o:=(MapKept.heap_alloc w o).1
theorem aC{w:World}(o:Obj){b:Nat}{o':Obj}(h:w.heap[b]? = some o'):(w.alloc o).heap[b]? = some o':=by
 rw[Below.heap_alloc _ _ _ (aB h)];exact h
theorem toList_inj{a b:ByteArray}:(a.toList==b.toList)=true↔a=b:=by
 rw[beq_iff_eq];constructor
 . intro h
   have h2:a.data.toList=b.data.toList:=by simpa[ByteArray.toList_eq] using h
   exact ByteArray.ext (Array.toList_inj.1 h2)
 . rintro rfl;rfl
def bI(c:Int):Bool:=decide (97<=c)&&decide (c<=122)
def aQ(c:Int):Bool:=decide (48<=c)&&decide (c<=57)
def jI(p:Int->Bool)(l:List UInt8):Nat:=(l.takeWhile fun c=>p c.toNat).length
theorem n6{p:UInt8->Bool}:∀(l:List UInt8) (k:Nat),k<=l.length->(∀j,(hj:j<l.length)->j<k->p l[j]=true)->((h:k<l.length)->p l[k]=false)->(l.takeWhile p).length=k
 | [],k,hk,_,_=>by simp at hk;simp[hk]
 | x::r,0,_,_,h=>by
  have:=h (by simp)
  simp at this;simp[List.takeWhile,this]
 | x::r,k+1,hk,ha,h=>by
  have h0:p x=true:=ha 0 (by simp) (by omega);simp only[List.takeWhile,h0,List.length_cons];rw[n6 r k (by simpa using hk) (fun j hj hjk=>by have:=ha (j+1) (by simpa using hj) (by omega);simpa using this) (fun hh=>by have:=h (by simpa using hh);simpa using this)]
theorem nK(u:ByteArray)(p:Int->Bool)(k:Nat)(hk:k<=u.size)(ha:∀j,(hj:j<u.size)->j<k->p u[j].toNat=true)(h:(h:k<u.size)->p u[k].toNat=false):jI p u.data.toList=k:=by
 refine n6 _ _ (by simpa using hk) (fun j hj hjk=>?_) (fun hh=>?_)
 . show p ((u.data.toList[j]).toNat)=true
   rw[Array.getElem_toList];exact ha j (by simpa using hj) hjk
 . show p ((u.data.toList[k]).toNat)=false
   rw[Array.getElem_toList];exact h (by simpa using hh)
theorem eW(c:Int)(w:World) :
 Calls Tryz.prog 55 #[.int .u8 c] w fun e w'=>e = .returned (.bool (bI c))/\w'=w:=by
 by_cases h1:97<=c
 . go_enter Tryz.func55,Tryz.ntmps55
   go_wp2;go_ret;exact⟨bG (by simp[bI,h1]),rfl⟩
 . go_enter Tryz.func55,Tryz.ntmps55
   go_wp2;go_ret;exact⟨bG (by simp[bI];omega),rfl⟩
theorem iD(c:Int)(w:World) :
 Calls Tryz.prog 140 #[.int .u8 c] w fun e w'=>e = .returned (.bool (aQ c))/\w'=w:=by
 by_cases h1:48<=c
 . go_enter Tryz.func140,Tryz.ntmps140
   go_wp2;go_ret;exact⟨bG (by simp[aQ,h1]),rfl⟩
 . go_enter Tryz.func140,Tryz.ntmps140
   go_wp2;go_ret;exact⟨bG (by simp[aQ];omega),rfl⟩
theorem jJ(u:ByteArray)(w:World)(hs:u.size<=maxLen) :
 Calls Tryz.prog 54 #[.string u,.func (Fn.func 55) #[] #[]] w fun e w'=>e = .returned (.int .i64 (jI bI u.data.toList))/\w'=w:=by
 unfold maxLen at hs;go_enter Tryz.func54,Tryz.ntmps54;go_wp2;go_loop [5] (fun i=>∃k:Nat,k<=u.size/\i = .int .i64 k/\∀j,(hj:j<u.size)->j<k->bI u[j].toNat=true) (fun i=>u.size-(intOf i).toNat)
 case atStart=>exact⟨0,Nat.zero_le _,rfl,fun j hj hk=>by omega⟩
 case round=>
  obtain⟨k,hk,rfl,hne⟩:=hrel;have HN:=hid hne;clear hne;by_cases hlt:k<u.size
  . by_cases hp:bI u[k].toNat=true
    . go_wp2_with (go_at_call 55;refine (eW _ _).mono ?_;rintro e w'⟨rfl,rfl⟩)
      go_round
      case rel=>
       refine⟨k+1,by omega,by go_num,fun j hj hjk=>?_⟩;by_cases e:j=k
       . subst e;exact hp
       . exact HN.out j hj (by omega)
      case measure=>simp[intOf];omega
    . have hp':bI u[k].toNat=false:=by simpa using hp
      have HP:=hid hp';clear hp;go_wp2_with (go_at_call 55;refine (eW _ _).mono ?_;rintro e w'⟨rfl,rfl⟩)
      go_ret;exact⟨gD (by rw[nK u bI k hk HN.out (fun h=>HP.out)]),rfl⟩
  . go_wp2
    go_ret;exact⟨gD (by rw[nK u bI k hk HN.out (fun h=>absurd h hlt)]),rfl⟩
theorem oA(u:ByteArray)(w:World)(hs:u.size<=maxLen) :
 Calls Tryz.prog 54 #[.string u,.func (Fn.func 140) #[] #[]] w fun e w'=>e = .returned (.int .i64 (jI aQ u.data.toList))/\w'=w:=by
 unfold maxLen at hs;go_enter Tryz.func54,Tryz.ntmps54;go_wp2;go_loop [5] (fun i=>∃k:Nat,k<=u.size/\i = .int .i64 k/\∀j,(hj:j<u.size)->j<k->aQ u[j].toNat=true) (fun i=>u.size-(intOf i).toNat)
 case atStart=>exact⟨0,Nat.zero_le _,rfl,fun j hj hk=>by omega⟩
 case round=>
  obtain⟨k,hk,rfl,hne⟩:=hrel;have HN:=hid hne;clear hne;by_cases hlt:k<u.size
  . by_cases hp:aQ u[k].toNat=true
    . go_wp2_with (go_at_call 140;refine (iD _ _).mono ?_;rintro e w'⟨rfl,rfl⟩)
      go_round
      case rel=>
       refine⟨k+1,by omega,by go_num,fun j hj hjk=>?_⟩;by_cases e:j=k
       . subst e;exact hp
       . exact HN.out j hj (by omega)
      case measure=>simp[intOf];omega
    . have hp':aQ u[k].toNat=false:=by simpa using hp
      have HP:=hid hp';clear hp;go_wp2_with (go_at_call 140;refine (iD _ _).mono ?_;rintro e w'⟨rfl,rfl⟩)
      go_ret;exact⟨gD (by rw[nK u aQ k hk HN.out (fun h=>HP.out)]),rfl⟩
  . go_wp2
    go_ret;exact⟨gD (by rw[nK u aQ k hk HN.out (fun h=>absurd h hlt)]),rfl⟩
def iE(l:List UInt8):Nat:=
 match l with
 | []=>1
 | c::_=>if bI c.toNat then jI bI l else if aQ c.toNat then jI aQ l else if Lib.hasPrefix l [61,61] then 2 else 1
def kB(l:List UInt8):Nat:=(l.takeWhile fun c=>c != 10).length
theorem oB:∀(l:List UInt8),(0<=Lib.indexByte l 10->Lib.indexByte l 10=kB l)/\(Lib.indexByte l 10<0->kB l=l.length)
 | []=>by simp[Lib.indexByte,kB]
 | c::r=>by
  obtain⟨h1,h2⟩:=oB r;have hge:=Lib.indexByte_ge r 10;by_cases hc:c=10
  . subst hc;simp[Lib.indexByte,kB]
  . have hb:(c==10)=false:=by simpa using hc
    have hb':(c != 10)=true:=by simpa using hc
    have e:kB (c::r)=kB r+1:=by simp[kB,List.takeWhile,hb']
    rw[e];simp only[Lib.indexByte,hb];by_cases hm:Lib.indexByte r 10 = -1
    . simp[hm];exact h2 (by omega)
    . have hm':(Lib.indexByte r 10 == -1)=false:=by simpa using hm
      simp only[hm'];have:=h1 (by omega)
      refine⟨fun _=>by simp;omega,fun h=>by simp at h;omega⟩
theorem rU(u:ByteArray)(w:World) :
 Calls Tryz.prog 121 #[.string u] w fun e w'=>e = .returned (.int .i64 (kB u.data.toList))/\w'=w:=by
 have h:=oB u.data.toList;generalize hI:Lib.indexByte u.data.toList 10=I at h;have HI:=hid hI;obtain⟨h1,h2⟩:=h;clear hI;have H1:=hid h1;have H2:=hid h2;clear h1 h2;by_cases hI:0<=I
 . go_enter Tryz.func121,Tryz.ntmps121
   go_wp2_with (go_at_call 139;go_must (refine (Tryz.strings_IndexByte _ _ _).mono ?_;rintro e w'⟨rfl,rfl⟩;rw[show ((10:Int).toNat.toUInt8)=10 from rfl,HI.out]))
   go_ret;exact⟨gD (H1.out hI),rfl⟩
 . go_enter Tryz.func121,Tryz.ntmps121
   go_wp2_with (go_at_call 139;go_must (refine (Tryz.strings_IndexByte _ _ _).mono ?_;rintro e w'⟨rfl,rfl⟩;rw[show ((10:Int).toNat.toUInt8)=10 from rfl,HI.out]))
   go_ret;exact⟨gD (by rw[H2.out (by omega)];simp),rfl⟩
theorem Mp{u:ByteArray}(h:0<u.size):∃c r,u.data.toList=c::r/\u[0]=c:=by
 obtain⟨⟨l⟩⟩:=u;cases l with
 | nil=>simp[ByteArray.size] at h
 | cons c r=>exact⟨c,r,rfl,rfl⟩
theorem wG(u:ByteArray)(w:World)(hs:u.size<=maxLen)(h0:0<u.size) :
 Calls Tryz.prog 122 #[.string u] w fun e w'=>e = .returned (.int .i64 (iE u.data.toList))/\w'=w:=by
 obtain⟨c,r,hc,hu⟩:=Mp h0;have HC:=hid hc;have HU:=hid hu;have HS:=hid hs;clear hc hu hs;by_cases hl:bI u[0].toNat=true
 . go_enter Tryz.func122,Tryz.ntmps122
   go_wp2_with (first
    | (go_at_call 55;go_must (refine (eW _ _).mono ?_;rintro e w'⟨rfl,rfl⟩))
    | (go_at_call 54;go_must (refine (jJ _ _ HS.out).mono ?_;rintro e w'⟨rfl,rfl⟩)))
   go_ret;refine⟨gD ?_,rfl⟩;rw[HC.out];simp only[iE];rw[<-HU.out,if_pos hl]
 . have hl':bI u[0].toNat=false:=by simpa using hl
   clear hl;by_cases hd:aQ u[0].toNat=true
   . go_enter Tryz.func122,Tryz.ntmps122
     go_wp2_with (first
      | (go_at_call 55;go_must (refine (eW _ _).mono ?_;rintro e w'⟨rfl,rfl⟩))
      | (go_at_call 140;go_must (refine (iD _ _).mono ?_;rintro e w'⟨rfl,rfl⟩))
      | (go_at_call 54;go_must (refine (oA _ _ HS.out).mono ?_;rintro e w'⟨rfl,rfl⟩)))
     go_ret;refine⟨gD ?_,rfl⟩;rw[HC.out];simp only[iE];rw[<-HU.out,hl',hd];simp
   . have hd':aQ u[0].toNat=false:=by simpa using hd
     clear hd;by_cases hp:Lib.hasPrefix u.data.toList [61,61]=true
     . have HP:=hid hp
       clear hp;go_enter Tryz.func122,Tryz.ntmps122;go_wp2_with (first
        | (go_at_call 55;go_must (refine (eW _ _).mono ?_;rintro e w'⟨rfl,rfl⟩))
        | (go_at_call 140;go_must (refine (iD _ _).mono ?_;rintro e w'⟨rfl,rfl⟩))
        | (go_at_call 141;go_must (refine (Tryz.strings_HasPrefix _ _ _).mono ?_;rintro e w'⟨rfl,rfl⟩;rw[show Lib.hasPrefix u.data.toList (⟨#[61,61]⟩:ByteArray).data.toList=true from HP.out])))
       go_ret;refine⟨gD ?_,rfl⟩;have hp:=HP.out;rw[HC.out] at hp ⊢;simp only[iE];rw[<-HU.out,hl',hd',HU.out,hp];rfl
     . have hp':Lib.hasPrefix u.data.toList [61,61]=false:=by simpa using hp
       have HP:=hid hp';clear hp hp';go_enter Tryz.func122,Tryz.ntmps122;go_wp2_with (first
        | (go_at_call 55;go_must (refine (eW _ _).mono ?_;rintro e w'⟨rfl,rfl⟩))
        | (go_at_call 140;go_must (refine (iD _ _).mono ?_;rintro e w'⟨rfl,rfl⟩))
        | (go_at_call 141;go_must (refine (Tryz.strings_HasPrefix _ _ _).mono ?_;rintro e w'⟨rfl,rfl⟩;rw[show Lib.hasPrefix u.data.toList (⟨#[61,61]⟩:ByteArray).data.toList=false from HP.out])))
       go_ret;refine⟨gD ?_,rfl⟩;have hp:=HP.out;rw[HC.out] at hp ⊢;simp only[iE];rw[<-HU.out,hl',hd',HU.out,hp];rfl
structure Tok where
 text:ByteArray
 line:Nat
 col:Nat
def rV(s:ByteArray)(a:Nat):Nat:=kB (s.extract a s.size).data.toList
def gE(s:ByteArray)(a:Nat):Nat:=iE (s.extract a s.size).data.toList
def kO(s:ByteArray):Nat->Nat->Nat->Nat->List Tok
 | 0,_,_,_=>[]
 | f+1,a,line,ls=>
  if h:a<s.size then
   if s[a].toNat=10 then kO s f (a+1) (line+1) (a+1)
   else if s[a].toNat=32 then kO s f (a+1) line ls
   else if s[a].toNat=9 then kO s f (a+1) line ls
   else if s[a].toNat=35 then kO s f (a+rV s a) line ls
   else ⟨s.extract a (a+gE s a),line,a-ls+1⟩::kO s f (a+gE s a) line ls
  else [⟨⟨#[]⟩,line,s.size-ls+1⟩]
def aN(s:ByteArray):List Tok:=kO s (s.size+1) 0 1 0
def aV(l:List Tok):List Value:=l.flatMap fun t=>[.string t.text,.int .i64 t.line,.int .i64 t.col]
theorem fO:∀(l:List Tok),(aV l).length=3*l.length
 | []=>rfl
 | t::r=>by have:=fO r;simp only[aV,List.flatMap_cons,List.length_append,List.length_cons,List.length_nil] at this ⊢;omega
theorem oC(l:List Tok)(t:Tok):aV (l ++ [t])=aV l ++ [.string t.text,.int .i64 t.line,.int .i64 t.col]:=by
 simp[aV]
theorem Dr(p:Int->Bool)(l:List UInt8):jI p l<=l.length:=by
 unfold jI;exact (List.takeWhile_sublist _).length_le
theorem Aw(p:Int->Bool)(c:UInt8)(r:List UInt8)(h:p c.toNat=true):1<=jI p (c::r):=by
 unfold jI;simp[List.takeWhile,h]
theorem wH(l:List UInt8)(h:Lib.hasPrefix l [61,61]=true):2<=l.length:=by
 match l with
 | []=>simp[Lib.hasPrefix] at h
 | [x]=>simp[Lib.hasPrefix] at h
 | _::_::_=>simp
theorem yT(c:UInt8)(r:List UInt8):1<=iE (c::r)/\iE (c::r)<=(c::r).length:=by
 simp only[iE];split
 . next h=>exact⟨Aw _ _ _ h,Dr _ _⟩
 . split
   . next h=>exact⟨Aw _ _ _ h,Dr _ _⟩
   . split
     . next h=>exact⟨by omega,wH _ h⟩
     . simp
theorem p4(s:ByteArray)(a:Nat)(h:a<s.size):∃r,(s.extract a s.size).data.toList=s[a]::r/\r.length+1+a=s.size:=by
 have e:(s.extract a s.size).data.toList=s.data.toList.drop a:=by
  rw[<-Lib.toList_data,Lib.extract_toList,List.take_of_length_le (by simp)]
 have hl:a<s.data.toList.length:=by simpa using h
 refine⟨s.data.toList.drop (a+1),?_,?_⟩
 . rw[e,List.drop_eq_getElem_cons hl,Array.getElem_toList];rfl
 . simp;omega
theorem nL(s:ByteArray)(a:Nat)(h:a<s.size):1<=gE s a/\a+gE s a<=s.size:=by
 obtain⟨r,hr,hl⟩:=p4 s a h;have:=yT s[a] r
 unfold gE;rw[hr];simp only[List.length_cons] at this;omega
theorem Ds(s:ByteArray)(a:Nat)(h:a<s.size)(hc:s[a].toNat=35):1<=rV s a/\a+rV s a<=s.size:=by
 obtain⟨r,hr,hl⟩:=p4 s a h;have hne:(s[a] != 10)=true:=by
  rw[bne_iff_ne];intro e;rw[e] at hc;simp at hc
 have:kB (s[a]::r)=kB r+1:=by simp[kB,List.takeWhile,hne]
 have h2:kB r<=r.length:=by unfold kB;exact (List.takeWhile_sublist _).length_le
 unfold rV;rw[hr,this];omega
theorem nM(s:ByteArray)(f a line ls:Nat)(h:a<s.size):kO s (f+1) a line ls =
 if s[a].toNat=10 then kO s f (a+1) (line+1) (a+1)
 else if s[a].toNat=32 then kO s f (a+1) line ls
 else if s[a].toNat=9 then kO s f (a+1) line ls
 else if s[a].toNat=35 then kO s f (a+rV s a) line ls
 else ⟨s.extract a (a+gE s a),line,a-ls+1⟩::kO s f (a+gE s a) line ls:=by
 rw[kO,dif_pos h]
theorem tD(s:ByteArray)(f a line ls:Nat)(h:¬a<s.size):kO s (f+1) a line ls = [⟨⟨#[]⟩,line,s.size-ls+1⟩]:=by
 rw[kO,dif_neg h]
theorem Tryz.infoTok:(Tryz.prog.info? 121).map (fun i=>(i.zero,i.size,i.bytes))=some (some (.agg #[.string ⟨#[]⟩,.int .i64 0,.int .i64 0]),3,32):=by kernel_rfl
def Mq(s:ByteArray)(w:World)(v l ls i:Value)(wr:World):Prop:=
 ∃(f a line st:Nat) (acc:List Tok),a<=s.size/\st<=a/\line<=a+1/\s.size-a<f/\i = .int .i64 a/\l = .int .i64 line/\ls = .int .i64 st/\
  wr.ownsRow w.heap.size 121 3 v acc.length (aV acc)/\Below w.heap.size w wr/\acc.length<=a/\acc++kO s f a line st=aN s
theorem Je{a b:Int}(h:a=b):(a==b)=true:=by rw[beq_iff_eq];exact h
theorem Ee{a b:Int}(h:a≠b):(a==b)=false:=by rw[beq_eq_false_iff_ne];exact h
theorem q7(w:World)(x y z:Value)(T:TypeId):∀j u,[x,y,z][j]? = some u->(w.alloc (.cells #[x,y,z] T)).cell? ((⟨w.heap.size,0,none⟩:Addr).add j)=some u:=by
 intro j u hj;match j,hj with
 | 0,hj|1,hj|2,hj=>simp at hj;subst hj;simp[Addr.add]
 | (n+3),hj=>simp at hj
theorem tE(s:ByteArray)(w:World)(hs:s.size<=400) :
 Calls Tryz.prog 92 #[.string s] w fun e w'=>∃v,e = .returned v/\w'.ownsRow w.heap.size 121 3 v (aN s).length (aV (aN s))/\Below w.heap.size w w':=by
 obtain⟨i0,hi,hz0,hz1,hz2⟩:=info_parts Tryz.infoTok;go_enter Tryz.func92,Tryz.ntmps92;go_wp2;go_loopw [3,4,5,6] (fun v l ls i wr=>Mq s w v l ls i wr) (fun _ _ _ i _=>s.size-(intOf i).toNat)
 case atStart=>exact⟨s.size+1,0,1,0,[],by omega,by omega,by omega,by omega,rfl,rfl,rfl,World.ownsRow_nil _ _ _ _,Below.refl _ _,by simp,rfl⟩
 case round=>
  obtain⟨f,a,line,st,acc,ha,hst,hline,hf,rfl,rfl,rfl,hown,hb,hacc,heq⟩:=hrel;obtain⟨f,rfl⟩:∃g,f=g+1:=⟨f-1,by omega⟩
  have HE:=hid heq;have HO:=hid hown;have HB:=hid hb;clear heq hown hb;by_cases hlt:a<s.size
  . have hx:=nM s f a line st hlt
    by_cases h10:s[a].toNat=10
    . have b10:=Je (show (s[a].toNat:Int)=10 by omega)
      have HX:=hid (hx.trans (if_pos h10));clear hx h10;go_wp2;go_roundw
      case rel=>exact⟨f,a+1,line+1,a+1,acc,by omega,by omega,by omega,by omega,by go_num,by go_num,by go_num,HO.out,HB.out,by omega,HX.out ▸ HE.out⟩
      case measure=>simp[intOf];omega
    have n10:=Ee (show (s[a].toNat:Int)≠10 by omega);rw[if_neg h10] at hx;by_cases h32:s[a].toNat=32
    . have b32:=Je (show (s[a].toNat:Int)=32 by omega)
      have HX:=hid (hx.trans (if_pos h32));clear hx h32 h10;go_wp2;go_roundw
      case rel=>exact⟨f,a+1,line,st,acc,by omega,by omega,by omega,by omega,by go_num,rfl,rfl,HO.out,HB.out,by omega,HX.out ▸ HE.out⟩
      case measure=>simp[intOf];omega
    have n32:=Ee (show (s[a].toNat:Int)≠32 by omega);rw[if_neg h32] at hx;by_cases h9:s[a].toNat=9
    . have b9:=Je (show (s[a].toNat:Int)=9 by omega)
      have HX:=hid (hx.trans (if_pos h9));clear hx h9 h32 h10;go_wp2;go_roundw
      case rel=>exact⟨f,a+1,line,st,acc,by omega,by omega,by omega,by omega,by go_num,rfl,rfl,HO.out,HB.out,by omega,HX.out ▸ HE.out⟩
      case measure=>simp[intOf];omega
    have n9:=Ee (show (s[a].toNat:Int)≠9 by omega);rw[if_neg h9] at hx;by_cases h35:s[a].toNat=35
    . have b35:=Je (show (s[a].toNat:Int)=35 by omega)
      have HX:=hid (hx.trans (if_pos h35));have hbd:=Ds s a hlt h35;clear hx h9 h32 h10 h35;go_wp2_with (go_at_call 121;go_must (refine (rU _ _).mono ?_;rintro e w1⟨rfl,rfl⟩;rw[show kB (s.extract a s.size).data.toList=rV s a from rfl]))
      go_roundw
      case rel=>exact⟨f,a+rV s a,line,st,acc,by omega,by omega,by omega,by omega,by go_num,rfl,rfl,HO.out,HB.out,by omega,HX.out ▸ HE.out⟩
      case measure=>simp[intOf];omega
    have n35:=Ee (show (s[a].toNat:Int)≠35 by omega);rw[if_neg h35] at hx;have HX:=hid hx;have hbd:=nL s a hlt;clear hx h9 h32 h10 h35;go_wp2_with (first
     | (go_at_call 122;go_must (refine (wG _ _ ?hh1 ?hh2).mono ?_;(case hh1=>simp only[ByteArray.size_extract];unfold maxLen;omega);(case hh2=>simp only[ByteArray.size_extract];omega);rintro e w1⟨rfl,rfl⟩;rw[show iE (s.extract a s.size).data.toList=gE s a from rfl]))
     | (at_builtin;go_must (refine wpList_append_own _ rfl _ _ 82 rfl w.heap.size 121 i0 (.agg #[.string ⟨#[]⟩,.int .i64 0,.int .i64 0]) 3 32 Tryz.underlying82 hi hz0 hz1 hz2 rfl (by decide) _ _ _ rfl (HO.out.alloc _) ⟨w1.heap.size,0,none⟩ 1 1 [.string (s.extract a (a+gE s a)),.int .i64 line,.int .i64 ((a:Int)-st+1)] rfl rfl (q7 _ _ _ _ _) ?c2 ?c3 ?c4 ?c5 ?_)))
    case c2=>intro u hu;simp at hu;rcases hu with rfl|rfl|rfl <;> rfl
    case c3=>unfold maxLen;omega
    case c4=>omega
    case c5=>have:=HB.out.size;simp;omega
    intro v' w2 hown' hgrow _;have HB2:=hid ((HB.out.alloc HB.out.size _).grown hgrow (by have:=HB.out.size;simp;omega) (fun k hk=>(HO.out.lt k hk).1));have hcol:((a:Int)-st+1)=((a-st+1:Nat):Int):=by omega
    rw[hcol,<-oC acc ⟨s.extract a (a+gE s a),line,a-st+1⟩] at hown';have HO2:=hid hown';clear hown' hgrow hcol;go_wp2;go_roundw
    case rel=>exact⟨f,a+gE s a,line,st,acc ++ [⟨s.extract a (a+gE s a),line,a-st+1⟩],by omega,by omega,by omega,by omega,by go_num,rfl,rfl,by simpa using HO2.out,HB2.out,by simp;omega,by have h:=HE.out;rw[HX.out] at h;simpa using h⟩
    case measure=>simp[intOf];omega
  . have hx:=tD s f a line st hlt
    have HX:=hid hx;clear hx;go_wp2_with (at_builtin;go_must (refine wpList_append_own _ rfl _ _ 82 rfl w.heap.size 121 i0 (.agg #[.string ⟨#[]⟩,.int .i64 0,.int .i64 0]) 3 32 Tryz.underlying82 hi hz0 hz1 hz2 rfl (by decide) _ _ _ rfl (HO.out.alloc _) ⟨wr.heap.size,0,none⟩ 1 1 [.string ⟨#[]⟩,.int .i64 line,.int .i64 ((s.size:Int)-st+1)] rfl rfl (q7 _ _ _ _ _) ?c2 ?c3 ?c4 ?c5 ?_))
    case c2=>intro u hu;simp at hu;rcases hu with rfl|rfl|rfl <;> rfl
    case c3=>unfold maxLen;omega
    case c4=>omega
    case c5=>have:=HB.out.size;simp;omega
    intro v' w2 hown' hgrow _;have HB2:=hid ((HB.out.alloc HB.out.size _).grown hgrow (by have:=HB.out.size;simp;omega) (fun k hk=>(HO.out.lt k hk).1));have hcol:((s.size:Int)-st+1)=((s.size-st+1:Nat):Int):=by omega
    rw[hcol,<-oC acc ⟨⟨#[]⟩,line,s.size-st+1⟩] at hown';have he:=HE.out;rw[HX.out] at he;rw[he] at hown';have hlen:acc.length+1=(aN s).length:=by rw[<-he];simp
    rw[hlen] at hown';have HO2:=hid hown';clear hown' hgrow hcol he hlen;go_wp2;go_ret;exact⟨v',rfl,HO2.out,HB2.out⟩
structure Fr (S:List Nat) (w w':World):Prop where
 os:w'.os=w.os
 tape:w'.tape=w.tape
 output:w'.output=w.output
 size:w.heap.size<=w'.heap.size
 block:∀k,k<w.heap.size->k∉S->w'.heap[k]? = w.heap[k]?
theorem Fr.refl(S:List Nat)(w:World):Fr S w w:=⟨rfl,rfl,rfl,Nat.le_refl _,fun _ _ _=>rfl⟩
theorem Fr.drew{S:List Nat}{a w:World}(h:Fr S a w):Fr S a w.drew:=⟨h.os,h.tape,h.output,h.size,h.block⟩
theorem Fr.alloc{S:List Nat}{a w:World}(h:Fr S a w)(o:Obj):Fr S a (w.alloc o):=
 ⟨h.os,h.tape,h.output,by have:=h.size;simp;omega,fun k hk hn=>by
  rw[Below.heap_alloc _ _ _ (by have:=h.size;omega)];exact h.block k hk hn⟩
theorem Fr.setCell{S:List Nat}{a w:World}(h:Fr S a w)(p:Addr)(hp:p.block∈S\/a.heap.size<=p.block)(u:Value):Fr S a (w.setCell p u):=
 ⟨h.os,h.tape,h.output,by have:=h.size;simpa[World.setCell] using this,fun k hk hn=>by
  have hne:k≠p.block:=by
   rintro rfl;rcases hp with hp|hp
   . exact hn hp
   . omega
  rw[Below.heap_setCell _ _ _ _ hne];exact h.block k hk hn⟩
theorem Fr.trans{S:List Nat}{a b c:World}(h:Fr S a b)(k:Fr S b c):Fr S a c:=
 ⟨k.os.trans h.os,k.tape.trans h.tape,k.output.trans h.output,Nat.le_trans h.size k.size,fun i hi hn=>
  (k.block i (Nat.lt_of_lt_of_le hi h.size) hn).trans (h.block i hi hn)⟩
theorem Fr.of_below{S:List Nat}{w w':World}(h:Below w.heap.size w w'):Fr S w w':=
 ⟨h.os,h.tape,h.output,h.size,fun k hk _=>h.block k hk⟩
theorem Fr.heap{S:List Nat}{w w':World}(h:Fr S w w'){b:Nat}{o:Obj}(hb:w.heap[b]? = some o)(hn:b∉S):w'.heap[b]? = some o:=
 (h.block b (aB hb) hn).trans hb
def tx(toks:List Tok)(i:Nat):ByteArray:=((toks[i]?).map Tok.text).getD ⟨#[]⟩
structure PS (toks:List Tok) (pb tb cap:Nat) (a nest:Nat) (hp:Array Obj):Prop where
 ne:tb≠pb
 p:hp[pb]? = some (.cells #[.slice (some ⟨tb,0,none⟩) toks.length cap,.int .i64 a,.int .i64 nest] 224)
 t:∃cur,hp[tb]? = some (.cells cur 121)/\cur.toList.take (3*toks.length)=aV toks
theorem iY:∀(toks:List Tok) (i:Nat) (t:Tok),toks[i]? = some t->(aV toks)[3*i]? = some (.string t.text)/\(aV toks)[3*i+1]? = some (.int .i64 t.line)/\(aV toks)[3*i+2]? = some (.int .i64 t.col)
 | [],i,t,h=>by simp at h
 | x::r,0,t,h=>by
  simp at h;subst h;simp[aV]
 | x::r,i+1,t,h=>by
  have:=iY r i t (by simpa using h)
  have e:aV (x::r) = .string x.text::.int .i64 x.line::.int .i64 x.col::aV r:=by simp[aV]
  rw[e,show 3*(i+1)=3*i+3 from by omega,show 3*i+3+1=(3*i+1)+3 from by omega,show 3*i+3+2=(3*i+2)+3 from by omega];simpa using this
theorem cX{l xs:List Value}{n i:Nat}{v:Value}(h:l.take n=xs)(hv:xs[i]? = some v):l[i]? = some v:=by
 rw[<-h,List.getElem?_take] at hv;split at hv
 . exact hv
 . cases hv
theorem PS.cellT{toks:List Tok}{pb tb cap a nest:Nat}{w:World}(h:PS toks pb tb cap a nest w.heap){i:Nat}(hi:i<toks.length):w.cell? ⟨tb,i*3,none⟩=some (.string (tx toks i)):=by
 rw[Nat.mul_comm i 3];obtain⟨cur,hc,ht⟩:=h.t;have hg:toks[i]? = some toks[i]:=List.getElem?_eq_getElem hi;have:=cX ht (iY toks i _ hg).1
 rw[aA hc,<-Array.getElem?_toList,this,tx,hg];rfl
theorem PS.c0{toks:List Tok}{pb tb cap a nest:Nat}{w:World}(h:PS toks pb tb cap a nest w.heap):w.cell? ⟨pb,0,none⟩=some (.slice (some ⟨tb,0,none⟩) toks.length cap):=aA h.p
theorem PS.c1{toks:List Tok}{pb tb cap a nest:Nat}{w:World}(h:PS toks pb tb cap a nest w.heap):w.cell? ⟨pb,1,none⟩=some (.int .i64 a):=aA h.p
theorem PS.c2{toks:List Tok}{pb tb cap a nest:Nat}{w:World}(h:PS toks pb tb cap a nest w.heap):w.cell? ⟨pb,2,none⟩=some (.int .i64 nest):=aA h.p
theorem PS.f{toks:List Tok}{pb tb cap a nest:Nat}{w:World}(h:PS toks pb tb cap a nest w.heap)(i:Nat):w.frozen? ⟨pb,i,none⟩=false:=aE h.p
theorem PS.below{toks:List Tok}{pb tb cap a nest:Nat}{w w':World}(h:PS toks pb tb cap a nest w.heap)(hb:Below w.heap.size w w'):PS toks pb tb cap a nest w'.heap:=by
 obtain⟨cur,hc,ht⟩:=h.t;exact⟨h.ne,below_heap hb (aB h.p) h.p,cur,below_heap hb (aB hc) hc,ht⟩
theorem PS.at{toks:List Tok}{pb tb cap a nest:Nat}{w:World}(h:PS toks pb tb cap a nest w.heap)(b:Nat):PS toks pb tb cap b nest (w.setCell ⟨pb,1,none⟩ (.int .i64 b)).heap:=by
 obtain⟨cur,hc,ht⟩:=h.t;exact⟨h.ne,aH (i:=1) h.p _,cur,(aD h.ne _).trans hc,ht⟩
theorem PS.nestAt{toks:List Tok}{pb tb cap a nest:Nat}{w:World}(h:PS toks pb tb cap a nest w.heap)(b:Nat):PS toks pb tb cap a b (w.setCell ⟨pb,2,none⟩ (.int .i64 b)).heap:=by
 obtain⟨cur,hc,ht⟩:=h.t;exact⟨h.ne,aH (i:=2) h.p _,cur,(aD h.ne _).trans hc,ht⟩
theorem below_drewN(w:World)(n:Nat):Below w.heap.size w (w.drewN n):=⟨rfl,rfl,rfl,Nat.le_refl _,fun _ _=>rfl⟩
theorem cT(toks:List Tok)(pb tb cap a nest:Nat)(w:World)(h:PS toks pb tb cap a nest w.heap)(ha:a<toks.length) :
 Calls Tryz.prog 142 #[.pointer (some ⟨pb,0,none⟩)] w fun e w'=>e = .returned (.string (tx toks a))/\Below w.heap.size w w':=by
 have c0:=h.c0;have c1:=h.c1;have ct:=h.cellT ha;clear h;have ha1:(0:Int)<=(a:Int):=by omega
 have ha2:(a:Int)<(toks.length:Int):=by omega
 go_enter Tryz.func142,Tryz.ntmps142;go_wp2;go_quiet (fail)
 go_wp2;go_ret;exact⟨rfl,below_drewN _ _⟩
def bB(a b:ByteArray):Bool:=a.toList==b.toList
theorem Dt{a b:ByteArray}:bB a b=true↔a=b:=toList_inj
theorem aT(toks:List Tok)(pb tb cap a nest:Nat)(t:ByteArray)(w:World)(h:PS toks pb tb cap a nest w.heap)(ha:a<toks.length)(hn:toks.length<=401)(he:bB (tx toks a) t=true) :
 Calls Tryz.prog 143 #[.pointer (some ⟨pb,0,none⟩),.string t] w fun e w'=>e = .returned (.bool true)/\PS toks pb tb cap (a+1) nest w'.heap/\Fr [pb] w w':=by
 have HH:=hid h;have hne:((tx toks a).toList==t.toList)=true:=he;clear h he;go_enter Tryz.func143,Tryz.ntmps143;go_wp2_with (go_at_call 142;go_must (refine (cT toks pb tb cap a nest _ HH.out ha).mono ?_;rintro e w1⟨rfl,hb⟩;have HB:=hid hb;have H1:=hid (HH.out.below hb);have c1:=H1.out.c1;have f1:=H1.out.f 1;clear hb))
 go_ret;have:=H1.out.at (a+1)
 exact⟨rfl,by simpa using this,(Fr.of_below HB.out).setCell _ (.inl (by simp)) _⟩
theorem dF(toks:List Tok)(pb tb cap a nest:Nat)(t:ByteArray)(w:World)(h:PS toks pb tb cap a nest w.heap)(ha:a<toks.length)(he:bB (tx toks a) t=false) :
 Calls Tryz.prog 143 #[.pointer (some ⟨pb,0,none⟩),.string t] w fun e w'=>e = .returned (.bool false)/\PS toks pb tb cap a nest w'.heap/\Fr [pb] w w':=by
 have HH:=hid h;have hne:((tx toks a).toList==t.toList)=false:=he;clear h he;go_enter Tryz.func143,Tryz.ntmps143;go_wp2_with (go_at_call 142;go_must (refine (cT toks pb tb cap a nest _ HH.out ha).mono ?_;rintro e w1⟨rfl,hb⟩;have HB:=hid hb;have H1:=hid (HH.out.below hb);clear hb))
 go_ret;exact⟨rfl,H1.out,Fr.of_below HB.out⟩
theorem p5(toks:List Tok)(pb tb cap a nest:Nat)(w:World)(h:PS toks pb tb cap a nest w.heap)(ha:a<toks.length) :
 Calls Tryz.prog 123 #[.pointer (some ⟨pb,0,none⟩)] w fun e w'=>e = .returned (.bool (bB (tx toks a) ⟨#[]⟩))/\Below w.heap.size w w':=by
 have HH:=hid h;clear h;go_enter Tryz.func123,Tryz.ntmps123;go_wp2_with (go_at_call 142;go_must (refine (cT toks pb tb cap a nest _ HH.out ha).mono ?_;rintro e w1⟨rfl,hb⟩;have HB:=hid hb;clear hb))
 go_ret;exact⟨bG (by simp[bB]),HB.out⟩
def Du(t:ByteArray):Bool:=(t.toList == [117,115,101])||(t.toList == [112,117,98])||(t.toList == [108,101,116])||(t.toList == [105,110,116])||(t.toList == [98,111,111,108])||(t.toList == [116,114,117,101])||(t.toList == [102,97,108,115,101])||(t.toList == [105,102])||(t.toList == [116,104,101,110])||(t.toList == [101,108,115,101])||(t.toList == [101,110,100])
theorem wI(t:ByteArray)(w:World) :
 Calls Tryz.prog 56 #[.string t] w fun e w'=>e = .returned (.bool (Du t))/\w'=w:=by
 cases h0:(t.toList == [117,115,101]) with
 | true=>
  go_enter Tryz.func56,Tryz.ntmps56;go_wp2;go_ret;exact⟨bG (by simp[Du,h0]),rfl⟩
 | false=>
  cases h1:(t.toList == [112,117,98]) with
  | true=>
   go_enter Tryz.func56,Tryz.ntmps56;go_wp2;go_ret;exact⟨bG (by simp[Du,h0,h1]),rfl⟩
  | false=>
   cases h2:(t.toList == [108,101,116]) with
   | true=>
    go_enter Tryz.func56,Tryz.ntmps56;go_wp2;go_ret;exact⟨bG (by simp[Du,h0,h1,h2]),rfl⟩
   | false=>
    cases h3:(t.toList == [105,110,116]) with
    | true=>
     go_enter Tryz.func56,Tryz.ntmps56;go_wp2;go_ret;exact⟨bG (by simp[Du,h0,h1,h2,h3]),rfl⟩
    | false=>
     cases h4:(t.toList == [98,111,111,108]) with
     | true=>
      go_enter Tryz.func56,Tryz.ntmps56;go_wp2;go_ret;exact⟨bG (by simp[Du,h0,h1,h2,h3,h4]),rfl⟩
     | false=>
      cases h5:(t.toList == [116,114,117,101]) with
      | true=>
       go_enter Tryz.func56,Tryz.ntmps56;go_wp2;go_ret;exact⟨bG (by simp[Du,h0,h1,h2,h3,h4,h5]),rfl⟩
      | false=>
       cases h6:(t.toList == [102,97,108,115,101]) with
       | true=>
        go_enter Tryz.func56,Tryz.ntmps56;go_wp2;go_ret;exact⟨bG (by simp[Du,h0,h1,h2,h3,h4,h5,h6]),rfl⟩
       | false=>
        cases h7:(t.toList == [105,102]) with
        | true=>
         go_enter Tryz.func56,Tryz.ntmps56;go_wp2;go_ret;exact⟨bG (by simp[Du,h0,h1,h2,h3,h4,h5,h6,h7]),rfl⟩
        | false=>
         cases h8:(t.toList == [116,104,101,110]) with
         | true=>
          go_enter Tryz.func56,Tryz.ntmps56;go_wp2;go_ret;exact⟨bG (by simp[Du,h0,h1,h2,h3,h4,h5,h6,h7,h8]),rfl⟩
         | false=>
          cases h9:(t.toList == [101,108,115,101]) with
          | true=>
           go_enter Tryz.func56,Tryz.ntmps56;go_wp2;go_ret;exact⟨bG (by simp[Du,h0,h1,h2,h3,h4,h5,h6,h7,h8,h9]),rfl⟩
          | false=>
           cases h10:(t.toList == [101,110,100]) with
           | true=>
            go_enter Tryz.func56,Tryz.ntmps56;go_wp2;go_ret;exact⟨bG (by simp[Du,h0,h1,h2,h3,h4,h5,h6,h7,h8,h9,h10]),rfl⟩
           | false=>
            go_enter Tryz.func56,Tryz.ntmps56;go_wp2;go_ret;exact⟨bG (by simp[Du,h0,h1,h2,h3,h4,h5,h6,h7,h8,h9,h10]),rfl⟩
def bR(t:ByteArray):Bool:=decide (1<=t.size)&&decide (t.size<=8)&&(((jI bI t.data.toList:Nat):Int)==(t.size:Int)) && !Du t
def iZ(t:ByteArray):Bool:=decide (1<=t.size)&&decide (t.size<=9)&&(((jI aQ t.data.toList:Nat):Int)==(t.size:Int))
theorem jK(t:ByteArray)(w:World)(hs:t.size<=maxLen) :
 Calls Tryz.prog 35 #[.string t] w fun e w'=>e = .returned (.bool (bR t))/\w'=w:=by
 have HS:=hid hs;unfold maxLen at hs;by_cases h1:1<=t.size
 . by_cases h2:t.size<=8
   . cases h3:(((jI bI t.data.toList:Nat):Int)==(t.size:Int)) with
     | true=>
      go_enter Tryz.func35,Tryz.ntmps35;go_wp2_with (first
       | (go_at_call 54;go_must (refine (jJ _ _ HS.out).mono ?_;rintro e w⟨rfl,rfl⟩))
       | (go_at_call 56;go_must (refine (wI _ _).mono ?_;rintro e w⟨rfl,rfl⟩)))
      go_ret;exact⟨bG (by simp[bR,h1,h2,h3]),rfl⟩
     | false=>
      go_enter Tryz.func35,Tryz.ntmps35;go_wp2_with (first
       | (go_at_call 54;go_must (refine (jJ _ _ HS.out).mono ?_;rintro e w⟨rfl,rfl⟩)))
      go_ret;exact⟨bG (by simp[bR,h3]),rfl⟩
   . go_enter Tryz.func35,Tryz.ntmps35
     go_wp2;go_ret;exact⟨bG (by simp[bR,h2]),rfl⟩
 . go_enter Tryz.func35,Tryz.ntmps35
   go_wp2;go_ret;exact⟨bG (by simp[bR];omega),rfl⟩
theorem lO(t:ByteArray)(w:World)(hs:t.size<=maxLen) :
 Calls Tryz.prog 191 #[.string t] w fun e w'=>e = .returned (.bool (iZ t))/\w'=w:=by
 have HS:=hid hs;unfold maxLen at hs;by_cases h1:1<=t.size
 . by_cases h2:t.size<=9
   . go_enter Tryz.func191,Tryz.ntmps191
     go_wp2_with (first
      | (go_at_call 54;go_must (refine (oA _ _ HS.out).mono ?_;rintro e w⟨rfl,rfl⟩)))
     go_ret;exact⟨bG (by simp[iZ,h1,h2]),rfl⟩
   . go_enter Tryz.func191,Tryz.ntmps191
     go_wp2;go_ret;exact⟨bG (by simp[iZ,h2]),rfl⟩
 . go_enter Tryz.func191,Tryz.ntmps191
   go_wp2;go_ret;exact⟨bG (by simp[iZ];omega),rfl⟩
def lP(op:ByteArray)(l r:Value):Value:=.iface 271 (.agg #[.string op,l,r])
def iF(x y z:Value):Value:=.iface 293 (.agg #[x,y,z])
def cC(toks:List Tok)(i:Nat)(l:List UInt8):Bool:=(tx toks i).toList==l
def dW(t:ByteArray):Int:=(Lib.atoi t.data.toList).getD 0
def gN(t:ByteArray):Option Value:=
 if (t.toList == [116,114,117,101])||(t.toList == [102,97,108,115,101]) then some (.iface 290 (.bool (t.toList == [116,114,117,101])))
 else if iZ t then some (.iface 197 (.int .i64 (dW t)))
 else if bR t then some (.iface 291 (.string t)) else none
abbrev PR:=Option (Nat×Option Value)
def kC(p:PR)(k:Nat->Value->PR):PR:=
 match p with
 | none=>none
 | some (b,none)=>some (b,none)
 | some (b,some x)=>k b x
def P(toks:List Tok):Nat->Nat->Nat->Nat->Value->PR
 | 0,_,_,_,_=>none
 | f+1,0,nest,a,_=>kC (P toks f 1 nest a .nilIface) fun b x=>
  if cC toks b [61,61] then kC (P toks f 1 nest (b+1) .nilIface) fun c y=>some (c,some (lP ⟨#[61,61]⟩ x y)) else some (b,some x)
 | f+1,1,nest,a,_=>kC (P toks f 2 nest a .nilIface) fun b x=>P toks f 4 nest b x
 | f+1,2,nest,a,_=>kC (P toks f 3 nest a .nilIface) fun b x=>P toks f 5 nest b x
 | f+1,3,nest,a,_=>
  if cC toks a [40] then
   if nest=20 then some (a,none) else kC (P toks f 0 (nest+1) (a+1) .nilIface) fun b x=>if cC toks b [41] then some (b+1,some x) else some (b,none)
  else if cC toks a [105,102] then
   if nest=20 then some (a,none) else kC (P toks f 0 (nest+1) (a+1) .nilIface) fun b x=>
    if cC toks b [116,104,101,110] then kC (P toks f 0 (nest+1) (b+1) .nilIface) fun c y=>
     if cC toks c [101,108,115,101] then kC (P toks f 0 (nest+1) (c+1) .nilIface) fun d z=>
      if cC toks d [101,110,100] then some (d+1,some (iF x y z)) else some (d,none)
     else some (c,none)
    else some (b,none)
  else match gN (tx toks a) with
   | some v=>some (a+1,some v)
   | none=>some (a,none)
 | f+1,4,nest,a,acc=>if cC toks a [43] then kC (P toks f 2 nest (a+1) .nilIface) fun b y=>P toks f 4 nest b (lP ⟨#[43]⟩ acc y) else some (a,some acc)
 | f+1,_,nest,a,acc=>if cC toks a [42] then kC (P toks f 3 nest (a+1) .nilIface) fun b y=>P toks f 5 nest b (lP ⟨#[42]⟩ acc y) else some (a,some acc)
def N7(v:Value):Prop:=v = .nilIface\/∃t y,v = .iface t y
structure Wf (toks:List Tok):Prop where
 pos:0<toks.length
 le:toks.length<=401
 mid:∀i,i+1<toks.length->(tx toks i).size≠0
 last:tx toks (toks.length-1)=⟨#[]⟩
 size:∀i,(tx toks i).size<=400
theorem Wf.next{toks:List Tok}(h:Wf toks){a:Nat}(ha:a<toks.length)(hne:tx toks a≠⟨#[]⟩):a+1<toks.length:=by
 rcases Nat.lt_or_ge (a+1) toks.length with h1|h1
 . exact h1
 . exact absurd (by rw[show a=toks.length-1 from by omega];exact h.last) hne
theorem Wf.next_isT{toks:List Tok}(h:Wf toks){a:Nat}{x:UInt8}{l:List UInt8}(ha:a<toks.length)(hT:cC toks a (x::l)=true):a+1<toks.length:=by
 refine h.next ha fun e=>?_;rw[cC,e] at hT;simp at hT
theorem pB{t:ByteArray}{v:Value}(h:gN t=some v):t≠⟨#[]⟩:=by
 rintro rfl;have h1:iZ ⟨#[]⟩=false:=by decide
 have h2:bR ⟨#[]⟩=false:=by decide
 unfold gN at h;rw[if_neg (by simp),if_neg (by simp[h1]),if_neg (by simp[h2])] at h;cases h

def rW(toks:List Tok)(pb tb cap nest b:Nat)(r:Option Value)(w:World):Ending->World->Prop:=fun e w'=>
 (∃v,e = .returned (.tuple #[v,.bool r.isSome])/\N7 v/\(∀x,r=some x->v=x))/\PS toks pb tb cap b nest w'.heap/\b<toks.length/\Fr [pb] w w'
def OK(toks:List Tok)(F:FuncId)(tag g:Nat):Prop:=
 ∀(pb tb cap nest a b:Nat) (r:Option Value) (w:World),P toks g tag nest a .nilIface=some (b,r)->a<toks.length->nest<=20->PS toks pb tb cap a nest w.heap->
  Calls Tryz.prog F #[.pointer (some ⟨pb,0,none⟩)] w (rW toks pb tb cap nest b r w)
theorem bD{p:PR}{k:Nat->Value->PR}{z:Nat×Option Value}(h:kC p k=some z):(∃c,p=some (c,none)/\z=(c,none))\/∃c x,p=some (c,some x)/\k c x=some z:=by
 unfold kC at h;split at h
 . cases h
 . cases h;exact .inl ⟨_,rfl,rfl⟩
 . exact .inr ⟨_,_,rfl,h⟩
theorem aR(toks:List Tok)(i:Nat)(l:List UInt8):cC toks i l=bB (tx toks i) ⟨⟨l⟩⟩:=by
 simp[cC,bB,ByteArray.toList_eq]
theorem Jf{toks:List Tok}(hw:Wf toks){g:Nat}(hs:OK toks 174 1 g):OK toks 157 0 (g+1):=by
 intro pb tb cap nest a b r w h ha hnest hP;have HS:=hid hs;have HW:=hid hw;have HP:=hid hP;clear hs hw hP;simp only[P] at h;rcases bD h with ⟨c,h1,h2⟩|⟨c,x,h1,h2⟩
 . have e1:=(Prod.mk.inj h2).1
   have e2:=(Prod.mk.inj h2).2;subst e1;subst e2;have H1:=hid h1;clear h h1 h2;go_enter Tryz.func157,Tryz.ntmps157;go_wp2_with fail
   refine (HS.out pb tb cap nest a _ _ _ H1.out ha hnest HP.out).mono ?_;rintro e w1⟨⟨v,rfl,hv,_⟩,hP1,hb1,hF1⟩;have HP1:=hid hP1;have HF1:=hid hF1;have HV:=hid hv;clear hP1 hF1 hv;go_wp2;go_ret2;exact⟨⟨v,rfl,HV.out,fun x h=>by cases h⟩,HP1.out,hb1,HF1.out⟩
 have H1:=hid h1;clear h h1;cases ht:cC toks c [61,61] with
 | false=>
  rw[ht,if_neg (by simp)] at h2;have e1:=(Prod.mk.inj (Option.some.inj h2)).1;have e2:=(Prod.mk.inj (Option.some.inj h2)).2;subst e1;subst e2;have HT:Hid (bB (tx toks c) ⟨#[61,61]⟩=false):=hid ((aR toks c [61,61]).symm.trans ht);clear ht h2;go_enter Tryz.func157,Tryz.ntmps157;go_wp2_with fail
  refine (HS.out pb tb cap nest a _ _ _ H1.out ha hnest HP.out).mono ?_;rintro e w1⟨⟨v,rfl,hv,hx⟩,hP1,hb1,hF1⟩;obtain rfl:=hx x rfl;have HP1:=hid hP1;have HF1:=hid hF1;have HV:=hid hv;clear hP1 hF1 hv hx;go_wp2_with fail
  refine (dF toks pb tb cap _ nest _ _ HP1.out hb1 HT.out).mono ?_;rintro e w2⟨rfl,hP2,hF2⟩;have HP2:=hid hP2;have HF2:=hid hF2;clear hP2 hF2;go_wp2;go_ret2;exact⟨⟨_,rfl,HV.out,fun x h=>by cases h;rfl⟩,HP2.out,hb1,HF1.out.trans HF2.out⟩
 | true=>
  rw[ht,if_pos rfl] at h2;have HT:Hid (bB (tx toks c) ⟨#[61,61]⟩=true):=hid ((aR toks c [61,61]).symm.trans ht);have HN:Hid (c<toks.length->c+1<toks.length):=hid fun hc=>HW.out.next_isT hc ht;have HL:=hid HW.out.le;clear ht;rcases bD h2 with ⟨d,h3,h4⟩|⟨d,y,h3,h4⟩
  . have e1:=(Prod.mk.inj h4).1
    have e2:=(Prod.mk.inj h4).2;subst e1;subst e2;have H3:=hid h3;clear h2 h3 h4;go_enter Tryz.func157,Tryz.ntmps157;go_wp2_with fail
    refine (HS.out pb tb cap nest a _ _ _ H1.out ha hnest HP.out).mono ?_;rintro e w1⟨⟨v,rfl,hv,hx⟩,hP1,hb1,hF1⟩;obtain rfl:=hx x rfl;have HP1:=hid hP1;have HF1:=hid hF1;have HV:=hid hv;clear hP1 hF1 hv hx;go_wp2_with fail
    refine (aT toks pb tb cap _ nest _ _ HP1.out hb1 HL.out HT.out).mono ?_;rintro e w2⟨rfl,hP2,hF2⟩;have HP2:=hid hP2;have HF2:=hid hF2;clear hP2 hF2;go_wp2_with fail
    refine (HS.out pb tb cap nest _ _ _ _ H3.out (HN.out hb1) hnest HP2.out).mono ?_;rintro e w3⟨⟨v3,rfl,hv3,_⟩,hP3,hb3,hF3⟩;have HP3:=hid hP3;have HF3:=hid hF3;have HV3:=hid hv3;clear hP3 hF3 hv3;rcases HV.out with rfl|⟨t1,y1,rfl⟩ <;> rcases HV3.out with rfl|⟨t3,y3,rfl⟩
    all_goals
     go_wp2;go_ret2;exact⟨⟨_,rfl,.inr ⟨_,_,rfl⟩,fun x h=>by cases h⟩,HP3.out,hb3,(HF1.out.trans HF2.out).trans HF3.out⟩
  . have e1:=(Prod.mk.inj (Option.some.inj h4)).1
    have e2:=(Prod.mk.inj (Option.some.inj h4)).2;subst e1;subst e2;have H3:=hid h3;clear h2 h3 h4;go_enter Tryz.func157,Tryz.ntmps157;go_wp2_with fail
    refine (HS.out pb tb cap nest a _ _ _ H1.out ha hnest HP.out).mono ?_;rintro e w1⟨⟨v,rfl,hv,hx⟩,hP1,hb1,hF1⟩;obtain rfl:=hx x rfl;have HP1:=hid hP1;have HF1:=hid hF1;have HV:=hid hv;clear hP1 hF1 hv hx;go_wp2_with fail
    refine (aT toks pb tb cap _ nest _ _ HP1.out hb1 HL.out HT.out).mono ?_;rintro e w2⟨rfl,hP2,hF2⟩;have HP2:=hid hP2;have HF2:=hid hF2;clear hP2 hF2;go_wp2_with fail
    refine (HS.out pb tb cap nest _ _ _ _ H3.out (HN.out hb1) hnest HP2.out).mono ?_;rintro e w3⟨⟨v3,rfl,hv3,hx3⟩,hP3,hb3,hF3⟩;obtain rfl:=hx3 y rfl;have HP3:=hid hP3;have HF3:=hid hF3;have HV3:=hid hv3;clear hP3 hF3 hv3 hx3;rcases HV.out with rfl|⟨t1,y1,rfl⟩ <;> rcases HV3.out with rfl|⟨t3,y3,rfl⟩
    all_goals
     go_wp2;go_ret2;exact⟨⟨_,rfl,.inr ⟨_,_,rfl⟩,fun x h=>by cases h;rfl⟩,HP3.out,hb3,(HF1.out.trans HF2.out).trans HF3.out⟩
def sN(toks:List Tok)(pb tb cap nest b:Nat)(r:Option Value)(w:World)(rtag k:Nat)(lv okv:Value)(wr:World):Prop:=
 N7 lv/\Fr [pb] w wr/\((∃f c,okv = .bool true/\k=f+1/\P toks f rtag nest c lv=some (b,r)/\c<toks.length/\PS toks pb tb cap c nest wr.heap)\/
  (okv = .bool false/\r=none/\b<toks.length/\PS toks pb tb cap b nest wr.heap))
theorem B9{toks:List Tok}(hw:Wf toks){g:Nat}(hs:∀g',g'<=g->OK toks 185 2 g')(pb tb cap nest a b:Nat)(r:Option Value)(w:World)
 (h:kC (P toks g 2 nest a .nilIface) (fun b x=>P toks g 4 nest b x)=some (b,r)) (ha:a<toks.length) (hnest:nest<=20) (hP:PS toks pb tb cap a nest w.heap) :
 Calls Tryz.prog 184 #[.pointer (some ⟨pb,0,none⟩),.string ⟨#[43]⟩,.func (Fn.func 185) #[.pointer (some ⟨pb,0,none⟩)] #[]] w (rW toks pb tb cap nest b r w):=by
 have HS:=hid hs;have HW:=hid hw;have HP:=hid hP;have HL:=hid hw.le;clear hs hw hP;have hstart:∃c r1,P toks g 2 nest a .nilIface=some (c,r1)/\((r1=none/\b=c/\r=none)\/∃x,r1=some x/\P toks g 4 nest c x=some (b,r)):=by
  rcases bD h with ⟨c,h1,h2⟩|⟨c,x,h1,h2⟩
  . exact⟨c,none,h1,.inl ⟨rfl,(Prod.mk.inj h2).1,(Prod.mk.inj h2).2⟩⟩
  . exact⟨c,some x,h1,.inr ⟨x,rfl,h2⟩⟩
 obtain⟨c,r1,h1,hr1⟩:=hstart;have H1:=hid h1;have HR:=hid hr1;clear h h1 hr1;go_enter Tryz.func184,Tryz.ntmps184;go_wp2_with fail
 refine (HS.out g (Nat.le_refl _) pb tb cap nest a _ _ _ H1.out ha hnest HP.out).mono ?_;rintro e w1⟨⟨v,rfl,hv,hx⟩,hP1,hb1,hF1⟩;have HAT:Hid (∃k,k<=g+1/\sN toks pb tb cap nest b r w 4 k v (.bool r1.isSome) w1):=by
  refine hid ?_;rcases HR.out with ⟨h1,h2,h3⟩|⟨x,h1,h2⟩
  . subst h1;subst h2;subst h3
    exact⟨0,by omega,hv,hF1,.inr ⟨rfl,rfl,hb1,hP1⟩⟩
  . subst h1
    obtain rfl:=hx x rfl;exact⟨g+1,by omega,hv,hF1,.inl ⟨g,c,rfl,rfl,h2,hb1,hP1⟩⟩
 clear hP1 hF1 hx hv hb1 HR H1;generalize r1.isSome=ok1 at HAT ⊢;go_wp2;obtain⟨k1,hk1,hat⟩:=HAT.out;have HA1:=hid hat;clear hat HAT;go_loopg [8,9] k1 (fun k lv okv wr=>k<=g+1/\sN toks pb tb cap nest b r w 4 k lv okv wr)
 case atStart=>exact⟨hk1,HA1.out⟩
 case round=>
  clear HA1 hk1;obtain⟨hk,hi,hF,hor⟩:=hrel;have HF:=hid hF;clear hF;rcases hor with ⟨f,c2,rfl,rfl,hpf,hc2,hps⟩|⟨rfl,hr,hb,hps⟩
  . have HPS:=hid hps
    clear hps;obtain⟨f,rfl⟩:∃f',f=f'+1:=by
     cases f with
     | zero=>simp[P] at hpf
     | succ f'=>exact⟨f',rfl⟩
    simp only[P] at hpf;cases ht:cC toks c2 [43] with
    | false=>
     rw[ht,if_neg (by simp)] at hpf;have e1:=(Prod.mk.inj (Option.some.inj hpf)).1;have e2:=(Prod.mk.inj (Option.some.inj hpf)).2;have HT:Hid (bB (tx toks c2) ⟨#[43]⟩=false):=hid ((aR toks c2 [43]).symm.trans ht);have HI:=hid hi;subst e1;subst e2;clear ht hpf hi;go_wp2_with (go_at_call 143;go_must (refine (dF toks pb tb cap _ nest _ _ HPS.out hc2 HT.out).mono ?_;rintro e w2⟨rfl,hP2,hF2⟩;have HP2:=hid hP2;have HF2:=hid hF2;clear hP2 hF2))
     go_ret2;exact⟨⟨_,rfl,HI.out,fun x h=>by cases h;rfl⟩,HP2.out,hc2,HF.out.trans HF2.out⟩
    | true=>
     rw[ht,if_pos rfl] at hpf;have HT:Hid (bB (tx toks c2) ⟨#[43]⟩=true):=hid ((aR toks c2 [43]).symm.trans ht);have HN:Hid (c2+1<toks.length):=hid (HW.out.next_isT hc2 ht);clear ht;rcases bD hpf with ⟨d,h3,h4⟩|⟨d,y,h3,h4⟩
     . have e1:=(Prod.mk.inj h4).1
       have e2:=(Prod.mk.inj h4).2;subst e1;subst e2;have H3:=hid h3;clear hpf h3 h4;rcases hi with rfl|⟨t1,y1,rfl⟩
       all_goals
        go_wp2_with (first
         | (go_at_call 143;go_must (refine (aT toks pb tb cap _ nest _ _ HPS.out hc2 HL.out HT.out).mono ?_;rintro e w2⟨rfl,hP2,hF2⟩;have HP2:=hid hP2;have HF2:=hid hF2;clear hP2 hF2))
         | (go_at_call 185;go_must (refine (HS.out f (by omega) pb tb cap nest _ _ _ _ H3.out HN.out hnest HP2.out).mono ?_;rintro e w3⟨⟨v3,rfl,hv3,_⟩,hP3,hb3,hF3⟩;have HP3:=hid hP3;have HF3:=hid hF3;have HV3:=hid hv3;clear hP3 hF3 hv3;rcases HV3.out with rfl|⟨t3,y3,rfl⟩)))
       all_goals
        go_roundg 0
       all_goals first
        | omega
        | exact⟨by omega,.inr ⟨_,_,rfl⟩,(HF.out.trans HF2.out).trans HF3.out,.inr ⟨rfl,rfl,hb3,HP3.out⟩⟩
     . have H3:=hid h3
       have H4:=hid h4;clear hpf h3 h4;rcases hi with rfl|⟨t1,y1,rfl⟩
       all_goals
        go_wp2_with (first
         | (go_at_call 143;go_must (refine (aT toks pb tb cap _ nest _ _ HPS.out hc2 HL.out HT.out).mono ?_;rintro e w2⟨rfl,hP2,hF2⟩;have HP2:=hid hP2;have HF2:=hid hF2;clear hP2 hF2))
         | (go_at_call 185;go_must (refine (HS.out f (by omega) pb tb cap nest _ _ _ _ H3.out HN.out hnest HP2.out).mono ?_;rintro e w3⟨⟨v3,rfl,hv3,hx3⟩,hP3,hb3,hF3⟩;obtain rfl:=hx3 y rfl;have HP3:=hid hP3;have HF3:=hid hF3;have HV3:=hid hv3;clear hP3 hF3 hv3 hx3;rcases HV3.out with rfl|⟨t3,y3,rfl⟩)))
       all_goals
        go_roundg (f+1)
       all_goals first
        | omega
        | exact⟨by omega,.inr ⟨_,_,rfl⟩,(HF.out.trans HF2.out).trans HF3.out,.inl ⟨f,d,rfl,rfl,H4.out,hb3,HP3.out⟩⟩
  . have HPS:=hid hps
    have HI:=hid hi;subst hr;clear hps hi;go_wp2;go_ret2;exact⟨⟨_,rfl,HI.out,fun x h=>by cases h⟩,HPS.out,hb,HF.out⟩
theorem Ax{toks:List Tok}(hw:Wf toks){g:Nat}(hs:∀g',g'<=g->OK toks 187 3 g')(pb tb cap nest a b:Nat)(r:Option Value)(w:World)
 (h:kC (P toks g 3 nest a .nilIface) (fun b x=>P toks g 5 nest b x)=some (b,r)) (ha:a<toks.length) (hnest:nest<=20) (hP:PS toks pb tb cap a nest w.heap) :
 Calls Tryz.prog 184 #[.pointer (some ⟨pb,0,none⟩),.string ⟨#[42]⟩,.func (Fn.func 187) #[.pointer (some ⟨pb,0,none⟩)] #[]] w (rW toks pb tb cap nest b r w):=by
 have HS:=hid hs;have HW:=hid hw;have HP:=hid hP;have HL:=hid hw.le;clear hs hw hP;have hstart:∃c r1,P toks g 3 nest a .nilIface=some (c,r1)/\((r1=none/\b=c/\r=none)\/∃x,r1=some x/\P toks g 5 nest c x=some (b,r)):=by
  rcases bD h with ⟨c,h1,h2⟩|⟨c,x,h1,h2⟩
  . exact⟨c,none,h1,.inl ⟨rfl,(Prod.mk.inj h2).1,(Prod.mk.inj h2).2⟩⟩
  . exact⟨c,some x,h1,.inr ⟨x,rfl,h2⟩⟩
 obtain⟨c,r1,h1,hr1⟩:=hstart;have H1:=hid h1;have HR:=hid hr1;clear h h1 hr1;go_enter Tryz.func184,Tryz.ntmps184;go_wp2_with fail
 refine (HS.out g (Nat.le_refl _) pb tb cap nest a _ _ _ H1.out ha hnest HP.out).mono ?_;rintro e w1⟨⟨v,rfl,hv,hx⟩,hP1,hb1,hF1⟩;have HAT:Hid (∃k,k<=g+1/\sN toks pb tb cap nest b r w 5 k v (.bool r1.isSome) w1):=by
  refine hid ?_;rcases HR.out with ⟨h1,h2,h3⟩|⟨x,h1,h2⟩
  . subst h1;subst h2;subst h3
    exact⟨0,by omega,hv,hF1,.inr ⟨rfl,rfl,hb1,hP1⟩⟩
  . subst h1
    obtain rfl:=hx x rfl;exact⟨g+1,by omega,hv,hF1,.inl ⟨g,c,rfl,rfl,h2,hb1,hP1⟩⟩
 clear hP1 hF1 hx hv hb1 HR H1;generalize r1.isSome=ok1 at HAT ⊢;go_wp2;obtain⟨k1,hk1,hat⟩:=HAT.out;have HA1:=hid hat;clear hat HAT;go_loopg [8,9] k1 (fun k lv okv wr=>k<=g+1/\sN toks pb tb cap nest b r w 5 k lv okv wr)
 case atStart=>exact⟨hk1,HA1.out⟩
 case round=>
  clear HA1 hk1;obtain⟨hk,hi,hF,hor⟩:=hrel;have HF:=hid hF;clear hF;rcases hor with ⟨f,c2,rfl,rfl,hpf,hc2,hps⟩|⟨rfl,hr,hb,hps⟩
  . have HPS:=hid hps
    clear hps;obtain⟨f,rfl⟩:∃f',f=f'+1:=by
     cases f with
     | zero=>simp[P] at hpf
     | succ f'=>exact⟨f',rfl⟩
    simp only[P] at hpf;cases ht:cC toks c2 [42] with
    | false=>
     rw[ht,if_neg (by simp)] at hpf;have e1:=(Prod.mk.inj (Option.some.inj hpf)).1;have e2:=(Prod.mk.inj (Option.some.inj hpf)).2;have HT:Hid (bB (tx toks c2) ⟨#[42]⟩=false):=hid ((aR toks c2 [42]).symm.trans ht);have HI:=hid hi;subst e1;subst e2;clear ht hpf hi;go_wp2_with (go_at_call 143;go_must (refine (dF toks pb tb cap _ nest _ _ HPS.out hc2 HT.out).mono ?_;rintro e w2⟨rfl,hP2,hF2⟩;have HP2:=hid hP2;have HF2:=hid hF2;clear hP2 hF2))
     go_ret2;exact⟨⟨_,rfl,HI.out,fun x h=>by cases h;rfl⟩,HP2.out,hc2,HF.out.trans HF2.out⟩
    | true=>
     rw[ht,if_pos rfl] at hpf;have HT:Hid (bB (tx toks c2) ⟨#[42]⟩=true):=hid ((aR toks c2 [42]).symm.trans ht);have HN:Hid (c2+1<toks.length):=hid (HW.out.next_isT hc2 ht);clear ht;rcases bD hpf with ⟨d,h3,h4⟩|⟨d,y,h3,h4⟩
     . have e1:=(Prod.mk.inj h4).1
       have e2:=(Prod.mk.inj h4).2;subst e1;subst e2;have H3:=hid h3;clear hpf h3 h4;rcases hi with rfl|⟨t1,y1,rfl⟩
       all_goals
        go_wp2_with (first
         | (go_at_call 143;go_must (refine (aT toks pb tb cap _ nest _ _ HPS.out hc2 HL.out HT.out).mono ?_;rintro e w2⟨rfl,hP2,hF2⟩;have HP2:=hid hP2;have HF2:=hid hF2;clear hP2 hF2))
         | (go_at_call 187;go_must (refine (HS.out f (by omega) pb tb cap nest _ _ _ _ H3.out HN.out hnest HP2.out).mono ?_;rintro e w3⟨⟨v3,rfl,hv3,_⟩,hP3,hb3,hF3⟩;have HP3:=hid hP3;have HF3:=hid hF3;have HV3:=hid hv3;clear hP3 hF3 hv3;rcases HV3.out with rfl|⟨t3,y3,rfl⟩)))
       all_goals
        go_roundg 0
       all_goals first
        | omega
        | exact⟨by omega,.inr ⟨_,_,rfl⟩,(HF.out.trans HF2.out).trans HF3.out,.inr ⟨rfl,rfl,hb3,HP3.out⟩⟩
     . have H3:=hid h3
       have H4:=hid h4;clear hpf h3 h4;rcases hi with rfl|⟨t1,y1,rfl⟩
       all_goals
        go_wp2_with (first
         | (go_at_call 143;go_must (refine (aT toks pb tb cap _ nest _ _ HPS.out hc2 HL.out HT.out).mono ?_;rintro e w2⟨rfl,hP2,hF2⟩;have HP2:=hid hP2;have HF2:=hid hF2;clear hP2 hF2))
         | (go_at_call 187;go_must (refine (HS.out f (by omega) pb tb cap nest _ _ _ _ H3.out HN.out hnest HP2.out).mono ?_;rintro e w3⟨⟨v3,rfl,hv3,hx3⟩,hP3,hb3,hF3⟩;obtain rfl:=hx3 y rfl;have HP3:=hid hP3;have HF3:=hid hF3;have HV3:=hid hv3;clear hP3 hF3 hv3 hx3;rcases HV3.out with rfl|⟨t3,y3,rfl⟩)))
       all_goals
        go_roundg (f+1)
       all_goals first
        | omega
        | exact⟨by omega,.inr ⟨_,_,rfl⟩,(HF.out.trans HF2.out).trans HF3.out,.inl ⟨f,d,rfl,rfl,H4.out,hb3,HP3.out⟩⟩
  . have HPS:=hid hps
    have HI:=hid hi;subst hr;clear hps hi;go_wp2;go_ret2;exact⟨⟨_,rfl,HI.out,fun x h=>by cases h⟩,HPS.out,hb,HF.out⟩
theorem K3{toks:List Tok}(hw:Wf toks){g:Nat}(hs:∀g',g'<=g->OK toks 185 2 g'):OK toks 174 1 (g+1):=by
 intro pb tb cap nest a b r w h ha hnest hP;have HC:=hid (B9 hw hs pb tb cap nest a b r w (by simpa only[P] using h) ha hnest hP);clear hs hw hP h;go_enter Tryz.func174,Tryz.ntmps174;go_wp2_with fail
 refine HC.out.mono ?_;rintro e w1⟨⟨v,rfl,hv,hx⟩,hP1,hb1,hF1⟩;have HQ:=hid hP1;have HF1:=hid hF1;have HV:=hid hv;have HX:=hid hx;clear hP1 hF1 hv hx;go_wp2;go_ret2;exact⟨⟨v,rfl,HV.out,HX.out⟩,HQ.out,hb1,HF1.out⟩
theorem Ca{toks:List Tok}(hw:Wf toks){g:Nat}(hs:∀g',g'<=g->OK toks 187 3 g'):OK toks 185 2 (g+1):=by
 intro pb tb cap nest a b r w h ha hnest hP;have HC:=hid (Ax hw hs pb tb cap nest a b r w (by simpa only[P] using h) ha hnest hP);clear hs hw hP h;go_enter Tryz.func185,Tryz.ntmps185;go_wp2_with fail
 refine HC.out.mono ?_;rintro e w1⟨⟨v,rfl,hv,hx⟩,hP1,hb1,hF1⟩;have HQ:=hid hP1;have HF1:=hid hF1;have HV:=hid hv;have HX:=hid hx;clear hP1 hF1 hv hx;go_wp2;go_ret2;exact⟨⟨v,rfl,HV.out,HX.out⟩,HQ.out,hb1,HF1.out⟩
theorem Mr{a b:Int}(h:a≠b):(a != b)=true:=by rw[bne_iff_ne];exact h
theorem nY(toks:List Tok)(pb tb cap a:Nat)(w:World)(hP:PS toks pb tb cap a 20 w.heap)(ha:a<toks.length) :
 Calls Tryz.prog 188 #[.pointer (some ⟨pb,0,none⟩),.func (Fn.func 189) #[.pointer (some ⟨pb,0,none⟩)] #[]] w (rW toks pb tb cap 20 a none w):=by
 have c2:=hP.c2;have HP:=hid hP;clear hP;go_enter Tryz.func188,Tryz.ntmps188;go_wp2;go_ret2;exact⟨⟨_,rfl,.inl rfl,fun x h=>by cases h⟩,HP.out,ha,Fr.refl _ _⟩
theorem tF(toks:List Tok)(pb tb cap nest a b:Nat)(r:Option Value)(w:World)(hP:PS toks pb tb cap a nest w.heap)(hnest:nest<20)
 (hF:∀w',PS toks pb tb cap (a+1) (nest+1) w'.heap->Calls Tryz.prog 189 #[.pointer (some ⟨pb,0,none⟩)] w' (rW toks pb tb cap (nest+1) b r w')) (hl:a<401) :
 Calls Tryz.prog 188 #[.pointer (some ⟨pb,0,none⟩),.func (Fn.func 189) #[.pointer (some ⟨pb,0,none⟩)] #[]] w (rW toks pb tb cap nest b r w):=by
 have c2:=hP.c2;have c1:=hP.c1;have f1:=hP.f 1;have h1:=hP.at (a+1);rw[show ((a+1:Nat):Int)=(a:Int)+1 from by omega] at h1;have d2:=h1.c2;have g2:=h1.f 2;have h2:=h1.nestAt (nest+1);rw[show ((nest+1:Nat):Int)=(nest:Int)+1 from by omega] at h2;have H2:=hid h2;have HF:=hid hF;have hne:=Mr (show ((nest:Int))≠20 by omega);have hnf:=Ee (show ((nest:Int))≠20 by omega);have HW0:Hid (Fr [pb] w ((w.setCell ⟨pb,1,none⟩ (.int .i64 ((a:Int)+1))).setCell ⟨pb,2,none⟩ (.int .i64 ((nest:Int)+1)))):=
  hid (((Fr.refl [pb] w).setCell ⟨pb,1,none⟩ (.inl (by simp)) _).setCell ⟨pb,2,none⟩ (.inl (by simp)) _)
 clear hP h1 h2 hF;go_enter Tryz.func188,Tryz.ntmps188;go_wp2_with fail
 refine (HF.out _ H2.out).mono ?_;rintro e w1⟨⟨v,rfl,hv,hx⟩,hP1,hb1,hF1⟩;have e2:=hP1.c2;rw[show ((nest+1:Nat):Int)=(nest:Int)+1 from by omega] at e2;have k2:=hP1.f 2;have HP1:=hid (hP1.nestAt nest);have HF1:=hid ((HW0.out.trans hF1).setCell ⟨pb,2,none⟩ (.inl (by simp)) (.int .i64 nest));have HV:=hid hv;have HX:=hid hx;clear hP1 hF1 hv hx;go_wp2;go_ret2;exact⟨⟨v,rfl,HV.out,HX.out⟩,HP1.out,hb1,HF1.out⟩
theorem oK(toks:List Tok)(pb tb cap a:Nat)(w:World)(hP:PS toks pb tb cap a 20 w.heap)(ha:a<toks.length) :
 Calls Tryz.prog 188 #[.pointer (some ⟨pb,0,none⟩),.func (Fn.func 190) #[.pointer (some ⟨pb,0,none⟩)] #[]] w (rW toks pb tb cap 20 a none w):=by
 have c2:=hP.c2;have HP:=hid hP;clear hP;go_enter Tryz.func188,Tryz.ntmps188;go_wp2;go_ret2;exact⟨⟨_,rfl,.inl rfl,fun x h=>by cases h⟩,HP.out,ha,Fr.refl _ _⟩
theorem wJ(toks:List Tok)(pb tb cap nest a b:Nat)(r:Option Value)(w:World)(hP:PS toks pb tb cap a nest w.heap)(hnest:nest<20)
 (hF:∀w',PS toks pb tb cap (a+1) (nest+1) w'.heap->Calls Tryz.prog 190 #[.pointer (some ⟨pb,0,none⟩)] w' (rW toks pb tb cap (nest+1) b r w')) (hl:a<401) :
 Calls Tryz.prog 188 #[.pointer (some ⟨pb,0,none⟩),.func (Fn.func 190) #[.pointer (some ⟨pb,0,none⟩)] #[]] w (rW toks pb tb cap nest b r w):=by
 have c2:=hP.c2;have c1:=hP.c1;have f1:=hP.f 1;have h1:=hP.at (a+1);rw[show ((a+1:Nat):Int)=(a:Int)+1 from by omega] at h1;have d2:=h1.c2;have g2:=h1.f 2;have h2:=h1.nestAt (nest+1);rw[show ((nest+1:Nat):Int)=(nest:Int)+1 from by omega] at h2;have H2:=hid h2;have HF:=hid hF;have hne:=Mr (show ((nest:Int))≠20 by omega);have hnf:=Ee (show ((nest:Int))≠20 by omega);have HW0:Hid (Fr [pb] w ((w.setCell ⟨pb,1,none⟩ (.int .i64 ((a:Int)+1))).setCell ⟨pb,2,none⟩ (.int .i64 ((nest:Int)+1)))):=
  hid (((Fr.refl [pb] w).setCell ⟨pb,1,none⟩ (.inl (by simp)) _).setCell ⟨pb,2,none⟩ (.inl (by simp)) _)
 clear hP h1 h2 hF;go_enter Tryz.func188,Tryz.ntmps188;go_wp2_with fail
 refine (HF.out _ H2.out).mono ?_;rintro e w1⟨⟨v,rfl,hv,hx⟩,hP1,hb1,hF1⟩;have e2:=hP1.c2;rw[show ((nest+1:Nat):Int)=(nest:Int)+1 from by omega] at e2;have k2:=hP1.f 2;have HP1:=hid (hP1.nestAt nest);have HF1:=hid ((HW0.out.trans hF1).setCell ⟨pb,2,none⟩ (.inl (by simp)) (.int .i64 nest));have HV:=hid hv;have HX:=hid hx;clear hP1 hF1 hv hx;go_wp2;go_ret2;exact⟨⟨v,rfl,HV.out,HX.out⟩,HP1.out,hb1,HF1.out⟩
theorem Cb{toks:List Tok}(hw:Wf toks){g:Nat}(hs:OK toks 157 0 g)(pb tb cap nest a b:Nat)(r:Option Value)(w:World)
 (h:kC (P toks g 0 nest a .nilIface) (fun b x=>if cC toks b [41] then some (b+1,some x) else some (b,none))=some (b,r)) (ha:a<toks.length) (hnest:nest<=20) (hP:PS toks pb tb cap a nest w.heap) :
 Calls Tryz.prog 189 #[.pointer (some ⟨pb,0,none⟩)] w (rW toks pb tb cap nest b r w):=by
 have HS:=hid hs;have HW:=hid hw;have HP:=hid hP;have HL:=hid hw.le;clear hs hw hP;rcases bD h with ⟨c,h1,h2⟩|⟨c,x,h1,h2⟩
 . have e1:=(Prod.mk.inj h2).1
   have e2:=(Prod.mk.inj h2).2;subst e1;subst e2;have H1:=hid h1;clear h h1 h2;go_enter Tryz.func189,Tryz.ntmps189;go_wp2_with fail
   refine (HS.out pb tb cap nest a _ _ _ H1.out ha hnest HP.out).mono ?_;rintro e w1⟨⟨v,rfl,hv,_⟩,hP1,hb1,hF1⟩;have HP1:=hid hP1;have HF1:=hid hF1;have HV:=hid hv;clear hP1 hF1 hv;go_wp2;go_ret2;exact⟨⟨v,rfl,HV.out,fun x h=>by cases h⟩,HP1.out,hb1,HF1.out⟩
 have H1:=hid h1;clear h h1;cases ht:cC toks c [41] with
 | false=>
  rw[ht,if_neg (by simp)] at h2;have e1:=(Prod.mk.inj (Option.some.inj h2)).1;have e2:=(Prod.mk.inj (Option.some.inj h2)).2;subst e1;subst e2;have HT:Hid (bB (tx toks c) ⟨#[41]⟩=false):=hid ((aR toks c [41]).symm.trans ht);clear ht h2;go_enter Tryz.func189,Tryz.ntmps189;go_wp2_with fail
  refine (HS.out pb tb cap nest a _ _ _ H1.out ha hnest HP.out).mono ?_;rintro e w1⟨⟨v,rfl,hv,hx⟩,hP1,hb1,hF1⟩;have HP1:=hid hP1;have HF1:=hid hF1;have HV:=hid hv;clear hP1 hF1 hv hx;go_wp2_with (go_at_call 143;go_must (refine (dF toks pb tb cap _ nest _ _ HP1.out hb1 HT.out).mono ?_;rintro e w2⟨rfl,hP2,hF2⟩;have HP2:=hid hP2;have HF2:=hid hF2;clear hP2 hF2))
  go_ret2;exact⟨⟨v,rfl,HV.out,fun x h=>by cases h⟩,HP2.out,hb1,HF1.out.trans HF2.out⟩
 | true=>
  rw[ht,if_pos rfl] at h2;have e1:=(Prod.mk.inj (Option.some.inj h2)).1;have e2:=(Prod.mk.inj (Option.some.inj h2)).2;subst e1;subst e2;have HT:Hid (bB (tx toks c) ⟨#[41]⟩=true):=hid ((aR toks c [41]).symm.trans ht);have HN:Hid (c<toks.length->c+1<toks.length):=hid fun hc=>HW.out.next_isT hc ht;clear ht h2;go_enter Tryz.func189,Tryz.ntmps189;go_wp2_with fail
  refine (HS.out pb tb cap nest a _ _ _ H1.out ha hnest HP.out).mono ?_;rintro e w1⟨⟨v,rfl,hv,hx⟩,hP1,hb1,hF1⟩;have HP1:=hid hP1;have HF1:=hid hF1;have HV:=hid hv;have HX:=hid hx;clear hP1 hF1 hv hx;go_wp2_with (go_at_call 143;go_must (refine (aT toks pb tb cap _ nest _ _ HP1.out hb1 HL.out HT.out).mono ?_;rintro e w2⟨rfl,hP2,hF2⟩;have HP2:=hid hP2;have HF2:=hid hF2;clear hP2 hF2))
  go_ret2;exact⟨⟨v,rfl,HV.out,HX.out⟩,HP2.out,HN.out hb1,HF1.out.trans HF2.out⟩

structure CS (toks:List Tok) (pb tb cap nest:Nat) (w wr:World) (c:Nat) (x y z:Value):Prop where
 pl:pb<w.heap.size
 tl:tb<w.heap.size
 ps:PS toks pb tb cap c nest wr.heap
 fr:Fr [pb] w wr
 ch:wr.heap[w.heap.size]? = some (.cells #[x,y,z] 293)
theorem CS.new{toks:List Tok}{pb tb cap nest c:Nat}{w:World}(h:PS toks pb tb cap c nest w.heap):CS toks pb tb cap nest w (w.alloc (.cells #[.nilIface,.nilIface,.nilIface] 293)) c .nilIface .nilIface .nilIface:=by
 have h0:=h.t;obtain⟨cur,hc,_⟩:=h0;exact⟨aB h.p,aB hc,h.below ((Below.refl _ _).alloc (Nat.le_refl _) _),(Fr.refl _ _).alloc _,aI _ _⟩
theorem CS.call{toks:List Tok}{pb tb cap nest c d:Nat}{w wr w':World}{x y z:Value}(h:CS toks pb tb cap nest w wr c x y z)(hf:Fr [pb] wr w')(hp:PS toks pb tb cap d nest w'.heap):CS toks pb tb cap nest w w' d x y z:=
 ⟨h.pl,h.tl,hp,h.fr.trans hf,hf.heap h.ch (by have:=h.pl;simp;omega)⟩
theorem PS.other{toks:List Tok}{pb tb cap a nest:Nat}{w:World}(h:PS toks pb tb cap a nest w.heap){b i:Nat}(h1:b≠pb)(h2:b≠tb)(v:Value):PS toks pb tb cap a nest (w.setCell ⟨b,i,none⟩ v).heap:=by
 obtain⟨cur,hc,ht⟩:=h.t;exact⟨h.ne,(aD (Ne.symm h1) _).trans h.p,cur,(aD (Ne.symm h2) _).trans hc,ht⟩
theorem CS.set0{toks:List Tok}{pb tb cap nest c:Nat}{w wr:World}{x y z:Value}(h:CS toks pb tb cap nest w wr c x y z)(v:Value):CS toks pb tb cap nest w (wr.setCell ⟨w.heap.size,0,none⟩ v) c v y z:=
 ⟨h.pl,h.tl,h.ps.other (by have:=h.pl;omega) (by have:=h.tl;omega) v,h.fr.setCell _ (.inr (Nat.le_refl _)) _,aH (i:=0) h.ch v⟩
theorem CS.set1{toks:List Tok}{pb tb cap nest c:Nat}{w wr:World}{x y z:Value}(h:CS toks pb tb cap nest w wr c x y z)(v:Value):CS toks pb tb cap nest w (wr.setCell ⟨w.heap.size,1,none⟩ v) c x v z:=
 ⟨h.pl,h.tl,h.ps.other (by have:=h.pl;omega) (by have:=h.tl;omega) v,h.fr.setCell _ (.inr (Nat.le_refl _)) _,aH (i:=1) h.ch v⟩
theorem CS.set2{toks:List Tok}{pb tb cap nest c:Nat}{w wr:World}{x y z:Value}(h:CS toks pb tb cap nest w wr c x y z)(v:Value):CS toks pb tb cap nest w (wr.setCell ⟨w.heap.size,2,none⟩ v) c x y v:=
 ⟨h.pl,h.tl,h.ps.other (by have:=h.pl;omega) (by have:=h.tl;omega) v,h.fr.setCell _ (.inr (Nat.le_refl _)) _,aH (i:=2) h.ch v⟩
theorem CS.c0{toks:List Tok}{pb tb cap nest c:Nat}{w wr:World}{x y z:Value}(h:CS toks pb tb cap nest w wr c x y z):wr.cell? ⟨w.heap.size,0,none⟩=some x:=aA h.ch
theorem CS.c1{toks:List Tok}{pb tb cap nest c:Nat}{w wr:World}{x y z:Value}(h:CS toks pb tb cap nest w wr c x y z):wr.cell? ⟨w.heap.size,1,none⟩=some y:=aA h.ch
theorem CS.c2{toks:List Tok}{pb tb cap nest c:Nat}{w wr:World}{x y z:Value}(h:CS toks pb tb cap nest w wr c x y z):wr.cell? ⟨w.heap.size,2,none⟩=some z:=aA h.ch
theorem CS.f{toks:List Tok}{pb tb cap nest c:Nat}{w wr:World}{x y z:Value}(h:CS toks pb tb cap nest w wr c x y z)(i:Nat):wr.frozen? ⟨w.heap.size,i,none⟩=false:=aE h.ch
def Jg(v:Value):Prop:=∃t y,v = .iface t y
theorem Cc{t:ByteArray}{v:Value}(h:gN t=some v):Jg v:=by
 unfold gN at h;split at h
 . cases h;exact⟨_,_,rfl⟩
 . split at h
   . cases h;exact⟨_,_,rfl⟩
   . split at h
     . cases h;exact⟨_,_,rfl⟩
     . cases h
theorem eI{p:PR}{k:Nat->Value->PR}{b:Nat}{y:Value}(h:kC p k=some (b,some y)):∃c x,p=some (c,some x)/\k c x=some (b,some y):=by
 rcases bD h with ⟨c,_,h2⟩|h2
 . cases h2
 . exact h2
theorem sO(toks:List Tok):∀(f tag nest a:Nat) (acc:Value) (b:Nat) (x:Value),P toks f tag nest a acc=some (b,some x)->(tag<=3\/Jg acc)->Jg x:=by
 intro f;induction f with
 | zero=>intro tag nest a acc b x h;simp[P] at h
 | succ f ih=>
  intro tag nest a acc b x h hacc;match tag,h,hacc with
  | 0,h,_=>
   simp only[P] at h;obtain⟨c,y,h1,h2⟩:=eI h;split at h2
   . obtain⟨d,z,h3,h4⟩:=eI h2
     cases h4;exact⟨_,_,rfl⟩
   . cases h2;exact ih _ _ _ _ _ _ h1 (.inl (by omega))
  | 1,h,_=>
   simp only[P] at h;obtain⟨c,y,h1,h2⟩:=eI h;exact ih _ _ _ _ _ _ h2 (.inr (ih _ _ _ _ _ _ h1 (.inl (by omega))))
  | 2,h,_=>
   simp only[P] at h;obtain⟨c,y,h1,h2⟩:=eI h;exact ih _ _ _ _ _ _ h2 (.inr (ih _ _ _ _ _ _ h1 (.inl (by omega))))
  | 3,h,_=>
   simp only[P] at h;split at h
   . split at h
     . cases h
     . obtain⟨c,y,h1,h2⟩:=eI h
       split at h2
       . cases h2;exact ih _ _ _ _ _ _ h1 (.inl (by omega))
       . cases h2
   . split at h
     . split at h
       . cases h
       . obtain⟨c,y,h1,h2⟩:=eI h
         split at h2
         . obtain⟨d,z,h3,h4⟩:=eI h2
           split at h4
           . obtain⟨d,z,h5,h6⟩:=eI h4
             split at h6
             . cases h6;exact⟨_,_,rfl⟩
             . cases h6
           . cases h4
         . cases h2
     . split at h
       . rename_i v hv
         cases h;exact Cc hv
       . cases h
  | 4,h,hacc=>
   simp only[P] at h;split at h
   . obtain⟨c,y,h1,h2⟩:=eI h
     exact ih _ _ _ _ _ _ h2 (.inr ⟨_,_,rfl⟩)
   . cases h;exact hacc.resolve_left (by omega)
  | n+5,h,hacc=>
   simp only[P] at h;split at h
   . obtain⟨c,y,h1,h2⟩:=eI h
     exact ih _ _ _ _ _ _ h2 (.inr ⟨_,_,rfl⟩)
   . cases h;exact hacc.resolve_left (by omega)
theorem Ef{toks:List Tok}(hw:Wf toks){g:Nat}(hs:OK toks 157 0 g)(pb tb cap nest a b:Nat)(r:Option Value)(w:World)
 (h:kC (P toks g 0 nest a .nilIface) (fun b x=>
   if cC toks b [116,104,101,110] then kC (P toks g 0 nest (b+1) .nilIface) fun c y=>
    if cC toks c [101,108,115,101] then kC (P toks g 0 nest (c+1) .nilIface) fun d z=>
     if cC toks d [101,110,100] then some (d+1,some (iF x y z)) else some (d,none)
    else some (c,none)
   else some (b,none))=some (b,r)) (ha:a<toks.length) (hnest:nest<=20) (hP:PS toks pb tb cap a nest w.heap) :
 Calls Tryz.prog 190 #[.pointer (some ⟨pb,0,none⟩)] w (rW toks pb tb cap nest b r w):=by
 have HS:=hid hs;have HW:=hid hw;have HL:=hid hw.le;have HC0:=hid (CS.new hP);clear hs hw hP;rcases bD h with ⟨c0,h1,h2⟩|⟨c0,x,h1,h2⟩
 . have e1:=(Prod.mk.inj h2).1
   have e2:=(Prod.mk.inj h2).2;subst e1;subst e2;have H0:=hid h1;clear h h1 h2;go_enter Tryz.func190,Tryz.ntmps190;go_wp2_with fail
   refine (HS.out pb tb cap nest _ _ _ _ H0.out ha hnest HC0.out.ps).mono ?_;rintro e w0a⟨⟨v0,rfl,hv,hx⟩,hP1,hb0,hF1⟩;have hc1:=HC0.out.call hF1 hP1;have f0:=hc1.f 0;have q0:=hc1.c0;have HC0s:=hid (fun v=>hc1.set0 v);clear hP1 hF1 hx hc1;rcases hv with rfl|⟨t,y,rfl⟩
   all_goals
    go_wp2;go_ret2;exact⟨⟨_,rfl,.inl rfl,fun x h=>by cases h⟩,(HC0s.out _).ps,hb0,(HC0s.out _).fr⟩
 have H0:=hid h1;have I0:=hid (sO toks _ _ _ _ _ _ _ h1 (.inl (by omega)));clear h h1;cases ht:cC toks c0 [116,104,101,110] with
 | false=>
  rw[ht,if_neg (by simp)] at h2;have e1:=(Prod.mk.inj (Option.some.inj h2)).1;have e2:=(Prod.mk.inj (Option.some.inj h2)).2;subst e1;subst e2;have HT0:Hid (bB (tx toks c0) ⟨#[116,104,101,110]⟩=false):=hid ((aR toks c0 [116,104,101,110]).symm.trans ht);clear ht h2;go_enter Tryz.func190,Tryz.ntmps190;go_wp2_with fail
  refine (HS.out pb tb cap nest _ _ _ _ H0.out ha hnest HC0.out.ps).mono ?_;rintro e w0a⟨⟨v0,rfl,hv,hx⟩,hP1,hb0,hF1⟩;obtain rfl:=hx _ rfl;obtain⟨t0,y0,rfl⟩:=I0.out;have hc1:=HC0.out.call hF1 hP1;have f0:=hc1.f 0;have q0:=hc1.c0;have HC0s:=hid (hc1.set0 (.iface t0 y0));clear hP1 hF1 hx hv hc1;go_wp2_with fail
  refine (dF toks pb tb cap _ nest _ _ HC0s.out.ps hb0 HT0.out).mono ?_;rintro e w0b⟨rfl,hP2,hF2⟩;have HC0t:=hid (HC0s.out.call hF2 hP2);clear hP2 hF2;go_wp2;go_ret2;exact⟨⟨_,rfl,.inl rfl,fun x h=>by cases h⟩,HC0t.out.ps,hb0,HC0t.out.fr⟩
 | true=>
  rw[ht,if_pos rfl] at h2;have HT0:Hid (bB (tx toks c0) ⟨#[116,104,101,110]⟩=true):=hid ((aR toks c0 [116,104,101,110]).symm.trans ht);have HN0:Hid (c0<toks.length->c0+1<toks.length):=hid fun hc=>HW.out.next_isT hc ht;clear ht;have h:=h2;clear h2;rcases bD h with ⟨c1,h1,h2⟩|⟨c1,y,h1,h2⟩
  . have e1:=(Prod.mk.inj h2).1
    have e2:=(Prod.mk.inj h2).2;subst e1;subst e2;have H1:=hid h1;clear h h1 h2;go_enter Tryz.func190,Tryz.ntmps190;go_wp2_with fail
    refine (HS.out pb tb cap nest _ _ _ _ H0.out ha hnest HC0.out.ps).mono ?_;rintro e w0a⟨⟨v0,rfl,hv,hx⟩,hP1,hb0,hF1⟩;obtain rfl:=hx _ rfl;obtain⟨t0,y0,rfl⟩:=I0.out;have hc1:=HC0.out.call hF1 hP1;have f0:=hc1.f 0;have q0:=hc1.c0;have HC0s:=hid (hc1.set0 (.iface t0 y0));clear hP1 hF1 hx hv hc1;go_wp2_with fail
    refine (aT toks pb tb cap _ nest _ _ HC0s.out.ps hb0 HL.out HT0.out).mono ?_;rintro e w0b⟨rfl,hP2,hF2⟩;have HC0t:=hid (HC0s.out.call hF2 hP2);clear hP2 hF2;go_wp2_with fail
    refine (HS.out pb tb cap nest _ _ _ _ H1.out (HN0.out hb0) hnest HC0t.out.ps).mono ?_;rintro e w1a⟨⟨v1,rfl,hv,hx⟩,hP1,hb1,hF1⟩;have hc1:=HC0t.out.call hF1 hP1;have f0:=hc1.f 1;have q0:=hc1.c1;have HC1s:=hid (fun v=>hc1.set1 v);clear hP1 hF1 hx hc1;rcases hv with rfl|⟨t,y,rfl⟩
    all_goals
     go_wp2;go_ret2;exact⟨⟨_,rfl,.inl rfl,fun x h=>by cases h⟩,(HC1s.out _).ps,hb1,(HC1s.out _).fr⟩
  have H1:=hid h1;have I1:=hid (sO toks _ _ _ _ _ _ _ h1 (.inl (by omega)));clear h h1;cases ht:cC toks c1 [101,108,115,101] with
  | false=>
   rw[ht,if_neg (by simp)] at h2;have e1:=(Prod.mk.inj (Option.some.inj h2)).1;have e2:=(Prod.mk.inj (Option.some.inj h2)).2;subst e1;subst e2;have HT1:Hid (bB (tx toks c1) ⟨#[101,108,115,101]⟩=false):=hid ((aR toks c1 [101,108,115,101]).symm.trans ht);clear ht h2;go_enter Tryz.func190,Tryz.ntmps190;go_wp2_with fail
   refine (HS.out pb tb cap nest _ _ _ _ H0.out ha hnest HC0.out.ps).mono ?_;rintro e w0a⟨⟨v0,rfl,hv,hx⟩,hP1,hb0,hF1⟩;obtain rfl:=hx _ rfl;obtain⟨t0,y0,rfl⟩:=I0.out;have hc1:=HC0.out.call hF1 hP1;have f0:=hc1.f 0;have q0:=hc1.c0;have HC0s:=hid (hc1.set0 (.iface t0 y0));clear hP1 hF1 hx hv hc1;go_wp2_with fail
   refine (aT toks pb tb cap _ nest _ _ HC0s.out.ps hb0 HL.out HT0.out).mono ?_;rintro e w0b⟨rfl,hP2,hF2⟩;have HC0t:=hid (HC0s.out.call hF2 hP2);clear hP2 hF2;go_wp2_with fail
   refine (HS.out pb tb cap nest _ _ _ _ H1.out (HN0.out hb0) hnest HC0t.out.ps).mono ?_;rintro e w1a⟨⟨v1,rfl,hv,hx⟩,hP1,hb1,hF1⟩;obtain rfl:=hx _ rfl;obtain⟨t1,y1,rfl⟩:=I1.out;have hc1:=HC0t.out.call hF1 hP1;have f0:=hc1.f 1;have q0:=hc1.c1;have HC1s:=hid (hc1.set1 (.iface t1 y1));clear hP1 hF1 hx hv hc1;go_wp2_with fail
   refine (dF toks pb tb cap _ nest _ _ HC1s.out.ps hb1 HT1.out).mono ?_;rintro e w1b⟨rfl,hP2,hF2⟩;have HC1t:=hid (HC1s.out.call hF2 hP2);clear hP2 hF2;go_wp2;go_ret2;exact⟨⟨_,rfl,.inl rfl,fun x h=>by cases h⟩,HC1t.out.ps,hb1,HC1t.out.fr⟩
  | true=>
   rw[ht,if_pos rfl] at h2;have HT1:Hid (bB (tx toks c1) ⟨#[101,108,115,101]⟩=true):=hid ((aR toks c1 [101,108,115,101]).symm.trans ht);have HN1:Hid (c1<toks.length->c1+1<toks.length):=hid fun hc=>HW.out.next_isT hc ht;clear ht;have h:=h2;clear h2;rcases bD h with ⟨c2,h1,h2⟩|⟨c2,z,h1,h2⟩
   . have e1:=(Prod.mk.inj h2).1
     have e2:=(Prod.mk.inj h2).2;subst e1;subst e2;have H2:=hid h1;clear h h1 h2;go_enter Tryz.func190,Tryz.ntmps190;go_wp2_with fail
     refine (HS.out pb tb cap nest _ _ _ _ H0.out ha hnest HC0.out.ps).mono ?_;rintro e w0a⟨⟨v0,rfl,hv,hx⟩,hP1,hb0,hF1⟩;obtain rfl:=hx _ rfl;obtain⟨t0,y0,rfl⟩:=I0.out;have hc1:=HC0.out.call hF1 hP1;have f0:=hc1.f 0;have q0:=hc1.c0;have HC0s:=hid (hc1.set0 (.iface t0 y0));clear hP1 hF1 hx hv hc1;go_wp2_with fail
     refine (aT toks pb tb cap _ nest _ _ HC0s.out.ps hb0 HL.out HT0.out).mono ?_;rintro e w0b⟨rfl,hP2,hF2⟩;have HC0t:=hid (HC0s.out.call hF2 hP2);clear hP2 hF2;go_wp2_with fail
     refine (HS.out pb tb cap nest _ _ _ _ H1.out (HN0.out hb0) hnest HC0t.out.ps).mono ?_;rintro e w1a⟨⟨v1,rfl,hv,hx⟩,hP1,hb1,hF1⟩;obtain rfl:=hx _ rfl;obtain⟨t1,y1,rfl⟩:=I1.out;have hc1:=HC0t.out.call hF1 hP1;have f0:=hc1.f 1;have q0:=hc1.c1;have HC1s:=hid (hc1.set1 (.iface t1 y1));clear hP1 hF1 hx hv hc1;go_wp2_with fail
     refine (aT toks pb tb cap _ nest _ _ HC1s.out.ps hb1 HL.out HT1.out).mono ?_;rintro e w1b⟨rfl,hP2,hF2⟩;have HC1t:=hid (HC1s.out.call hF2 hP2);clear hP2 hF2;go_wp2_with fail
     refine (HS.out pb tb cap nest _ _ _ _ H2.out (HN1.out hb1) hnest HC1t.out.ps).mono ?_;rintro e w2a⟨⟨v2,rfl,hv,hx⟩,hP1,hb2,hF1⟩;have hc1:=HC1t.out.call hF1 hP1;have f0:=hc1.f 2;have q0:=hc1.c2;have HC2s:=hid (fun v=>hc1.set2 v);clear hP1 hF1 hx hc1;rcases hv with rfl|⟨t,y,rfl⟩
     all_goals
      go_wp2;go_ret2;exact⟨⟨_,rfl,.inl rfl,fun x h=>by cases h⟩,(HC2s.out _).ps,hb2,(HC2s.out _).fr⟩
   have H2:=hid h1;have I2:=hid (sO toks _ _ _ _ _ _ _ h1 (.inl (by omega)));clear h h1;cases ht:cC toks c2 [101,110,100] with
   | false=>
    rw[ht,if_neg (by simp)] at h2;have e1:=(Prod.mk.inj (Option.some.inj h2)).1;have e2:=(Prod.mk.inj (Option.some.inj h2)).2;subst e1;subst e2;have HT2:Hid (bB (tx toks c2) ⟨#[101,110,100]⟩=false):=hid ((aR toks c2 [101,110,100]).symm.trans ht);clear ht h2;go_enter Tryz.func190,Tryz.ntmps190;go_wp2_with fail
    refine (HS.out pb tb cap nest _ _ _ _ H0.out ha hnest HC0.out.ps).mono ?_;rintro e w0a⟨⟨v0,rfl,hv,hx⟩,hP1,hb0,hF1⟩;obtain rfl:=hx _ rfl;obtain⟨t0,y0,rfl⟩:=I0.out;have hc1:=HC0.out.call hF1 hP1;have f0:=hc1.f 0;have q0:=hc1.c0;have HC0s:=hid (hc1.set0 (.iface t0 y0));clear hP1 hF1 hx hv hc1;go_wp2_with fail
    refine (aT toks pb tb cap _ nest _ _ HC0s.out.ps hb0 HL.out HT0.out).mono ?_;rintro e w0b⟨rfl,hP2,hF2⟩;have HC0t:=hid (HC0s.out.call hF2 hP2);clear hP2 hF2;go_wp2_with fail
    refine (HS.out pb tb cap nest _ _ _ _ H1.out (HN0.out hb0) hnest HC0t.out.ps).mono ?_;rintro e w1a⟨⟨v1,rfl,hv,hx⟩,hP1,hb1,hF1⟩;obtain rfl:=hx _ rfl;obtain⟨t1,y1,rfl⟩:=I1.out;have hc1:=HC0t.out.call hF1 hP1;have f0:=hc1.f 1;have q0:=hc1.c1;have HC1s:=hid (hc1.set1 (.iface t1 y1));clear hP1 hF1 hx hv hc1;go_wp2_with fail
    refine (aT toks pb tb cap _ nest _ _ HC1s.out.ps hb1 HL.out HT1.out).mono ?_;rintro e w1b⟨rfl,hP2,hF2⟩;have HC1t:=hid (HC1s.out.call hF2 hP2);clear hP2 hF2;go_wp2_with fail
    refine (HS.out pb tb cap nest _ _ _ _ H2.out (HN1.out hb1) hnest HC1t.out.ps).mono ?_;rintro e w2a⟨⟨v2,rfl,hv,hx⟩,hP1,hb2,hF1⟩;obtain rfl:=hx _ rfl;obtain⟨t2,y2,rfl⟩:=I2.out;have hc1:=HC1t.out.call hF1 hP1;have f0:=hc1.f 2;have q0:=hc1.c2;have HC2s:=hid (hc1.set2 (.iface t2 y2));clear hP1 hF1 hx hv hc1;have d0:(w2a.setCell ⟨w.heap.size,2,none⟩ (.iface t2 y2)).drew.cell? ⟨w.heap.size,0,none⟩=some (.iface t0 y0):=HC2s.out.c0;have d1:(w2a.setCell ⟨w.heap.size,2,none⟩ (.iface t2 y2)).drew.cell? ⟨w.heap.size,1,none⟩=some (.iface t1 y1):=HC2s.out.c1;have d2:(w2a.setCell ⟨w.heap.size,2,none⟩ (.iface t2 y2)).drew.cell? ⟨w.heap.size,2,none⟩=some (.iface t2 y2):=HC2s.out.c2;go_wp2_with fail
    go_region_with (go_at_call 143;go_must (refine (dF toks pb tb cap _ nest _ _ ?hps hb2 HT2.out).mono ?_;(case hps=>exact HC2s.out.ps);rintro e w2b⟨rfl,hP2,hF2⟩;have hc2:=HC2s.out.call ((Fr.refl _ _).drew.trans hF2) hP2;have g0:=hc2.c0;have g1:=hc2.c1;have g2:=hc2.c2;have HC2t:=hid hc2;clear hP2 hF2 hc2))
    all_goals
     go_wp2;go_ret2;exact⟨⟨_,rfl,.inr ⟨_,_,rfl⟩,fun x h=>by cases h⟩,HC2t.out.ps,hb2,HC2t.out.fr⟩
   | true=>
    rw[ht,if_pos rfl] at h2;have HT2:Hid (bB (tx toks c2) ⟨#[101,110,100]⟩=true):=hid ((aR toks c2 [101,110,100]).symm.trans ht);have HN2:Hid (c2<toks.length->c2+1<toks.length):=hid fun hc=>HW.out.next_isT hc ht;clear ht;have h:=h2;clear h2;have e1:=(Prod.mk.inj (Option.some.inj h)).1;have e2:=(Prod.mk.inj (Option.some.inj h)).2;subst e1;subst e2;clear h;go_enter Tryz.func190,Tryz.ntmps190;go_wp2_with fail
    refine (HS.out pb tb cap nest _ _ _ _ H0.out ha hnest HC0.out.ps).mono ?_;rintro e w0a⟨⟨v0,rfl,hv,hx⟩,hP1,hb0,hF1⟩;obtain rfl:=hx _ rfl;obtain⟨t0,y0,rfl⟩:=I0.out;have hc1:=HC0.out.call hF1 hP1;have f0:=hc1.f 0;have q0:=hc1.c0;have HC0s:=hid (hc1.set0 (.iface t0 y0));clear hP1 hF1 hx hv hc1;go_wp2_with fail
    refine (aT toks pb tb cap _ nest _ _ HC0s.out.ps hb0 HL.out HT0.out).mono ?_;rintro e w0b⟨rfl,hP2,hF2⟩;have HC0t:=hid (HC0s.out.call hF2 hP2);clear hP2 hF2;go_wp2_with fail
    refine (HS.out pb tb cap nest _ _ _ _ H1.out (HN0.out hb0) hnest HC0t.out.ps).mono ?_;rintro e w1a⟨⟨v1,rfl,hv,hx⟩,hP1,hb1,hF1⟩;obtain rfl:=hx _ rfl;obtain⟨t1,y1,rfl⟩:=I1.out;have hc1:=HC0t.out.call hF1 hP1;have f0:=hc1.f 1;have q0:=hc1.c1;have HC1s:=hid (hc1.set1 (.iface t1 y1));clear hP1 hF1 hx hv hc1;go_wp2_with fail
    refine (aT toks pb tb cap _ nest _ _ HC1s.out.ps hb1 HL.out HT1.out).mono ?_;rintro e w1b⟨rfl,hP2,hF2⟩;have HC1t:=hid (HC1s.out.call hF2 hP2);clear hP2 hF2;go_wp2_with fail
    refine (HS.out pb tb cap nest _ _ _ _ H2.out (HN1.out hb1) hnest HC1t.out.ps).mono ?_;rintro e w2a⟨⟨v2,rfl,hv,hx⟩,hP1,hb2,hF1⟩;obtain rfl:=hx _ rfl;obtain⟨t2,y2,rfl⟩:=I2.out;have hc1:=HC1t.out.call hF1 hP1;have f0:=hc1.f 2;have q0:=hc1.c2;have HC2s:=hid (hc1.set2 (.iface t2 y2));clear hP1 hF1 hx hv hc1;have d0:(w2a.setCell ⟨w.heap.size,2,none⟩ (.iface t2 y2)).drew.cell? ⟨w.heap.size,0,none⟩=some (.iface t0 y0):=HC2s.out.c0;have d1:(w2a.setCell ⟨w.heap.size,2,none⟩ (.iface t2 y2)).drew.cell? ⟨w.heap.size,1,none⟩=some (.iface t1 y1):=HC2s.out.c1;have d2:(w2a.setCell ⟨w.heap.size,2,none⟩ (.iface t2 y2)).drew.cell? ⟨w.heap.size,2,none⟩=some (.iface t2 y2):=HC2s.out.c2;go_wp2_with fail
    go_region_with (go_at_call 143;go_must (refine (aT toks pb tb cap _ nest _ _ ?hps hb2 HL.out HT2.out).mono ?_;(case hps=>exact HC2s.out.ps);rintro e w2b⟨rfl,hP2,hF2⟩;have hc2:=HC2s.out.call ((Fr.refl _ _).drew.trans hF2) hP2;have g0:=hc2.c0;have g1:=hc2.c1;have g2:=hc2.c2;have HC2t:=hid hc2;clear hP2 hF2 hc2))
    all_goals
     go_wp2;go_ret2;exact⟨⟨_,rfl,.inr ⟨_,_,rfl⟩,fun x h=>by cases h;rfl⟩,HC2t.out.ps,HN2.out hb2,HC2t.out.fr⟩
theorem oD{p:UInt8->Bool}:∀(l:List UInt8),(l.takeWhile p).length=l.length->∀x∈l,p x=true
 | [],_,x,hx=>by simp at hx
 | y::r,h,x,hx=>by
  cases hp:p y with
  | false=>simp[List.takeWhile,hp] at h
  | true=>
   simp only[List.takeWhile,hp,List.length_cons] at h;rcases List.mem_cons.1 hx with rfl|hx
   . exact hp
   . exact oD r (by omega) x hx
theorem Dv:∀(l:List UInt8) (acc:Nat),(∀x∈l,aQ x.toNat=true)->∃n,Lib.decFrom acc l=some n
 | [],acc,_=>⟨acc,rfl⟩
 | y::r,acc,h=>by
  have hy:=h y (by simp);simp only[aQ,Bool.and_eq_true,decide_eq_true_eq] at hy;obtain⟨n,hn⟩:=Dv r (acc*10+(y.toNat-48)) (fun x hx=>h x (by simp[hx]));refine⟨n,?_⟩;have hd:Lib.digitVal y=some (y.toNat-48):=by unfold Lib.digitVal;rw[if_pos (by omega)]
  simp only[Lib.decFrom,hd];exact hn
theorem Dw{t:ByteArray}(h:iZ t=true):1<=t.size/\t.size<=9/\∀x∈t.data.toList,aQ x.toNat=true:=by
 simp only[iZ,Bool.and_eq_true,decide_eq_true_eq,beq_iff_eq] at h;obtain⟨⟨h1,h2⟩,h3⟩:=h;refine⟨h1,h2,oD (p:=fun c=>aQ c.toNat) _ ?_⟩;have:jI aQ t.data.toList=t.size:=by omega
 rw[<-show t.data.toList.length=t.size from by simp] at this;exact this
theorem Ay{t:ByteArray}(h:iZ t=true):t.size<=18/\Lib.atoi t.data.toList=some (dW t):=by
 obtain⟨h1,h2,h3⟩:=Dw h;refine⟨by omega,?_⟩;have hl:t.data.toList.length=t.size:=by simp
 unfold dW;cases hc:t.data.toList with
 | nil=>rw[hc] at hl;simp at hl;omega
 | cons x r=>
  rw[hc] at h3;obtain⟨n,hn⟩:=Dv (x::r) 0 h3;have hx:=h3 x (by simp);simp only[aQ,Bool.and_eq_true,decide_eq_true_eq] at hx;have n1:(x==45)=false:=by
   rw[beq_eq_false_iff_ne];rintro rfl;simp at hx
  have n2:(x==43)=false:=by
   rw[beq_eq_false_iff_ne];rintro rfl;simp at hx
  have:Lib.atoi (x::r)=some (n:Int):=by
   unfold Lib.atoi;simp[n1,n2,Lib.decNat,hn]
  rw[this];rfl
theorem Jh{toks:List Tok}(hw:Wf toks){g:Nat}(hs:OK toks 157 0 g):OK toks 187 3 (g+1):=by
 intro pb tb cap nest a b r w h ha hnest hP;have HW:=hid hw;have HP:=hid hP;have HS:=hid hs;have HL:=hid (show a<401 by have:=hw.le;omega);have HZ:=hid (show (tx toks a).size<=maxLen by have:=hw.size a;unfold maxLen;omega);have HNX:=hid (fun hne:tx toks a≠⟨#[]⟩=>hw.next ha hne);simp only[P] at h;clear hw hP hs;cases h1:cC toks a [40] with
 | true=>
  rw[h1,if_pos rfl] at h;have hT:((tx toks a).toList == [40])=true:=h1;have HN:=hid (HW.out.next_isT ha h1);by_cases hn:nest=20
  . rw[if_pos hn] at h
    have e1:=(Prod.mk.inj (Option.some.inj h)).1;have e2:=(Prod.mk.inj (Option.some.inj h)).2;subst e1;subst e2;subst hn;clear h h1;go_enter Tryz.func187,Tryz.ntmps187;go_wp2_with fail
    refine (cT toks pb tb cap a _ _ HP.out ha).mono ?_;rintro e w1⟨rfl,hb⟩;have HB:=hid hb;have H1:=hid (HP.out.below hb);clear hb;go_wp2_with fail
    refine (nY toks pb tb cap a _ H1.out ha).mono ?_;rintro e w2⟨⟨v,rfl,hv,hx⟩,hP2,hb2,hF2⟩;have HF:=hid ((Fr.of_below HB.out).trans hF2);have HP2:=hid hP2;have HV:=hid hv;clear hP2 hv hx hF2;go_wp2;go_ret2;exact⟨⟨v,rfl,HV.out,fun x h=>by cases h⟩,HP2.out,hb2,HF.out⟩
  . rw[if_neg hn] at h
    have H:=hid h;clear h h1;go_enter Tryz.func187,Tryz.ntmps187;go_wp2_with fail
    refine (cT toks pb tb cap a _ _ HP.out ha).mono ?_;rintro e w1⟨rfl,hb⟩;have HB:=hid hb;have H1:=hid (HP.out.below hb);clear hb;go_wp2_with fail
    refine (tF toks pb tb cap nest a b r _ H1.out (by omega) (fun w' hp'=>Cb HW.out HS.out pb tb cap (nest+1) (a+1) b r w' H.out HN.out (by omega) hp') HL.out).mono ?_;rintro e w2⟨⟨v,rfl,hv,hx⟩,hP2,hb2,hF2⟩;have HF:=hid ((Fr.of_below HB.out).trans hF2);have HP2:=hid hP2;have HV:=hid hv;have HX:=hid hx;clear hP2 hv hx hF2;go_wp2;go_ret2;exact⟨⟨v,rfl,HV.out,HX.out⟩,HP2.out,hb2,HF.out⟩
 | false=>
 rw[h1,if_neg (by simp)] at h;have n1:((tx toks a).toList == [40])=false:=h1;clear h1;cases h2:cC toks a [105,102] with
 | true=>
  rw[h2,if_pos rfl] at h;have hT:((tx toks a).toList == [105,102])=true:=h2;have HN:=hid (HW.out.next_isT ha h2);by_cases hn:nest=20
  . rw[if_pos hn] at h
    have e1:=(Prod.mk.inj (Option.some.inj h)).1;have e2:=(Prod.mk.inj (Option.some.inj h)).2;subst e1;subst e2;subst hn;clear h h2;go_enter Tryz.func187,Tryz.ntmps187;go_wp2_with fail
    refine (cT toks pb tb cap a _ _ HP.out ha).mono ?_;rintro e w1⟨rfl,hb⟩;have HB:=hid hb;have H1:=hid (HP.out.below hb);clear hb;go_wp2_with fail
    refine (oK toks pb tb cap a _ H1.out ha).mono ?_;rintro e w2⟨⟨v,rfl,hv,hx⟩,hP2,hb2,hF2⟩;have HF:=hid ((Fr.of_below HB.out).trans hF2);have HP2:=hid hP2;have HV:=hid hv;clear hP2 hv hx hF2;go_wp2;go_ret2;exact⟨⟨v,rfl,HV.out,fun x h=>by cases h⟩,HP2.out,hb2,HF.out⟩
  . rw[if_neg hn] at h
    have H:=hid h;clear h h2;go_enter Tryz.func187,Tryz.ntmps187;go_wp2_with fail
    refine (cT toks pb tb cap a _ _ HP.out ha).mono ?_;rintro e w1⟨rfl,hb⟩;have HB:=hid hb;have H1:=hid (HP.out.below hb);clear hb;go_wp2_with fail
    refine (wJ toks pb tb cap nest a b r _ H1.out (by omega) (fun w' hp'=>Ef HW.out HS.out pb tb cap (nest+1) (a+1) b r w' H.out HN.out (by omega) hp') HL.out).mono ?_;rintro e w2⟨⟨v,rfl,hv,hx⟩,hP2,hb2,hF2⟩;have HF:=hid ((Fr.of_below HB.out).trans hF2);have HP2:=hid hP2;have HV:=hid hv;have HX:=hid hx;clear hP2 hv hx hF2;go_wp2;go_ret2;exact⟨⟨v,rfl,HV.out,HX.out⟩,HP2.out,hb2,HF.out⟩
 | false=>
 rw[h2,if_neg (by simp)] at h;have n2:((tx toks a).toList == [105,102])=false:=h2;clear h2;cases h3:((tx toks a).toList == [116,114,117,101]) with
 | true=>
  have hl:gN (tx toks a)=some (.iface 290 (.bool true)):=by simp[gN,h3]
  have HN:=hid (HNX.out (pB hl));rw[hl] at h;have e1:=(Prod.mk.inj (Option.some.inj h)).1;have e2:=(Prod.mk.inj (Option.some.inj h)).2;subst e1;subst e2;clear h hl;have hb4:=HL.out;go_enter Tryz.func187,Tryz.ntmps187;go_wp2_with fail
  refine (cT toks pb tb cap a _ _ HP.out ha).mono ?_;rintro e w1⟨rfl,hb⟩;have H1:=hid (HP.out.below hb);have HB:=hid (Fr.of_below (S:=[pb]) hb);have c1:=H1.out.c1;have f1:=H1.out.f 1;clear hb;go_wp2;go_ret2;exact⟨⟨_,rfl,.inr ⟨_,_,rfl⟩,fun x h=>by cases h;rfl⟩,by have:=H1.out.at (a+1);simpa using this,HN.out,HB.out.setCell _ (.inl (by simp)) _⟩
 | false=>
 cases h4:((tx toks a).toList == [102,97,108,115,101]) with
 | true=>
  have hl:gN (tx toks a)=some (.iface 290 (.bool false)):=by simp[gN,h3,h4]
  have HN:=hid (HNX.out (pB hl));rw[hl] at h;have e1:=(Prod.mk.inj (Option.some.inj h)).1;have e2:=(Prod.mk.inj (Option.some.inj h)).2;subst e1;subst e2;clear h hl;have hb4:=HL.out;go_enter Tryz.func187,Tryz.ntmps187;go_wp2_with fail
  refine (cT toks pb tb cap a _ _ HP.out ha).mono ?_;rintro e w1⟨rfl,hb⟩;have H1:=hid (HP.out.below hb);have HB:=hid (Fr.of_below (S:=[pb]) hb);have c1:=H1.out.c1;have f1:=H1.out.f 1;clear hb;go_wp2;go_ret2;exact⟨⟨_,rfl,.inr ⟨_,_,rfl⟩,fun x h=>by cases h;rfl⟩,by have:=H1.out.at (a+1);simpa using this,HN.out,HB.out.setCell _ (.inl (by simp)) _⟩
 | false=>
 cases h5:iZ (tx toks a) with
 | true=>
  have hl:gN (tx toks a)=some (.iface 197 (.int .i64 (dW (tx toks a)))):=by simp[gN,h3,h4,h5]
  have HA:=hid (Ay h5);have HN:=hid (HNX.out (pB hl));rw[hl] at h;have e1:=(Prod.mk.inj (Option.some.inj h)).1;have e2:=(Prod.mk.inj (Option.some.inj h)).2;subst e1;subst e2;clear h hl;have hb4:=HL.out;go_enter Tryz.func187,Tryz.ntmps187;go_wp2_with fail
  refine (cT toks pb tb cap a _ _ HP.out ha).mono ?_;rintro e w1⟨rfl,hb⟩;have H1:=hid (HP.out.below hb);have HB:=hid (Fr.of_below (S:=[pb]) hb);have c1:=H1.out.c1;have f1:=H1.out.f 1;clear hb;go_wp2_with (first
   | (go_at_call 191;go_must (refine (lO _ _ HZ.out).mono ?_;rintro e w2⟨rfl,rfl⟩))
   | (go_at_call 192;go_must (refine (Tryz.strconv_Atoi _ _ HA.out.1 HA.out.2 _).mono ?_;rintro e w2⟨rfl,t,rfl⟩)))
  go_quiet (fail)
  go_wp2;go_ret2;have H2:=H1.out.at (a+1);rw[show ((a+1:Nat):Int)=(a:Int)+1 from by omega] at H2;exact⟨⟨_,rfl,.inr ⟨_,_,rfl⟩,fun x h=>by cases h;rfl⟩,(H2.below (Lib.bytesWorld_below _ 5 t)).below (below_drewN _ _),HN.out,((HB.out.setCell ⟨pb,1,none⟩ (.inl (by simp)) (.int .i64 ((a:Int)+1))).trans (Fr.of_below (Lib.bytesWorld_below _ 5 t))).trans (Fr.of_below (below_drewN _ _))⟩
 | false=>
 cases h6:bR (tx toks a) with
 | true=>
  have hl:gN (tx toks a)=some (.iface 291 (.string (tx toks a))):=by simp[gN,h3,h4,h5,h6]
  have HN:=hid (HNX.out (pB hl));rw[hl] at h;have e1:=(Prod.mk.inj (Option.some.inj h)).1;have e2:=(Prod.mk.inj (Option.some.inj h)).2;subst e1;subst e2;clear h hl;have hb4:=HL.out;go_enter Tryz.func187,Tryz.ntmps187;go_wp2_with fail
  refine (cT toks pb tb cap a _ _ HP.out ha).mono ?_;rintro e w1⟨rfl,hb⟩;have H1:=hid (HP.out.below hb);have HB:=hid (Fr.of_below (S:=[pb]) hb);have c1:=H1.out.c1;have f1:=H1.out.f 1;clear hb;go_wp2_with (first
   | (go_at_call 191;go_must (refine (lO _ _ HZ.out).mono ?_;rintro e w2⟨rfl,rfl⟩))
   | (go_at_call 35;go_must (refine (jK _ _ HZ.out).mono ?_;rintro e w2⟨rfl,rfl⟩)))
  go_ret2;exact⟨⟨_,rfl,.inr ⟨_,_,rfl⟩,fun x h=>by cases h;rfl⟩,by have:=H1.out.at (a+1);simpa using this,HN.out,HB.out.setCell _ (.inl (by simp)) _⟩
 | false=>
  have hl:gN (tx toks a)=none:=by simp[gN,h3,h4,h5,h6]
  rw[hl] at h;have e1:=(Prod.mk.inj (Option.some.inj h)).1;have e2:=(Prod.mk.inj (Option.some.inj h)).2;subst e1;subst e2;clear h hl;have hb4:=HL.out;go_enter Tryz.func187,Tryz.ntmps187;go_wp2_with fail
  refine (cT toks pb tb cap a _ _ HP.out ha).mono ?_;rintro e w1⟨rfl,hb⟩;have H1:=hid (HP.out.below hb);have HB:=hid (Fr.of_below (S:=[pb]) hb);have c1:=H1.out.c1;have f1:=H1.out.f 1;clear hb;go_wp2_with (first
   | (go_at_call 191;go_must (refine (lO _ _ HZ.out).mono ?_;rintro e w2⟨rfl,rfl⟩))
   | (go_at_call 35;go_must (refine (jK _ _ HZ.out).mono ?_;rintro e w2⟨rfl,rfl⟩)))
  go_ret2;exact⟨⟨_,rfl,.inl rfl,fun x h=>by cases h⟩,H1.out,ha,HB.out⟩
theorem OK.zero(toks:List Tok)(F tag:Nat):OK toks F tag 0:=by
 intro pb tb cap nest a b r w h;simp[P] at h
theorem K4{toks:List Tok}(hw:Wf toks):∀n g,g<=n->OK toks 157 0 g/\OK toks 174 1 g/\OK toks 185 2 g/\OK toks 187 3 g:=by
 intro n;induction n with
 | zero => intro g hg; obtain rfl:g=0:=by omega
           exact⟨OK.zero _ _ _,OK.zero _ _ _,OK.zero _ _ _,OK.zero _ _ _⟩
 | succ n ih=>
  intro g hg;cases g with
  | zero=>exact⟨OK.zero _ _ _,OK.zero _ _ _,OK.zero _ _ _,OK.zero _ _ _⟩
  | succ g=>
   exact⟨Jf hw (ih g (by omega)).2.1,K3 hw fun g' h=>(ih g' (by omega)).2.2.1,Ca hw fun g' h=>(ih g' (by omega)).2.2.2,Jh hw (ih g (by omega)).1⟩
theorem Az(toks:List Tok):∀(f tag nest a:Nat) (acc:Value) (z:Nat×Option Value),P toks f tag nest a acc=some z->a<=z.1:=by
 intro f;induction f with
 | zero=>intro tag nest a acc z h;simp[P] at h
 | succ f ih=>
  intro tag nest a acc z h;match tag,h with
  | 0,h=>
   simp only[P] at h;rcases bD h with ⟨c,h1,rfl⟩|⟨c,x,h1,h2⟩
   . exact ih _ _ _ _ _ h1
   . have:=ih _ _ _ _ _ h1
     split at h2
     . rcases bD h2 with ⟨d,h3,rfl⟩|⟨d,y,h3,h4⟩
       . have:=ih _ _ _ _ _ h3;simp at *;omega
       . have:=ih _ _ _ _ _ h3;cases h4;simp at *;omega
     . cases h2;exact this
  | 1,h=>
   simp only[P] at h;rcases bD h with ⟨c,h1,rfl⟩|⟨c,x,h1,h2⟩
   . exact ih _ _ _ _ _ h1
   . have h3:=ih _ _ _ _ _ h1
     have h4:=ih _ _ _ _ _ h2;simp at *;omega
  | 2,h=>
   simp only[P] at h;rcases bD h with ⟨c,h1,rfl⟩|⟨c,x,h1,h2⟩
   . exact ih _ _ _ _ _ h1
   . have h3:=ih _ _ _ _ _ h1
     have h4:=ih _ _ _ _ _ h2;simp at *;omega
  | 3,h=>
   simp only[P] at h;split at h
   . split at h
     . cases h;simp
     . rcases bD h with ⟨c,h1,rfl⟩|⟨c,x,h1,h2⟩
       . have:=ih _ _ _ _ _ h1;simp at *;omega
       . have:=ih _ _ _ _ _ h1
         split at h2 <;> cases h2 <;> simp at * <;> omega
   . split at h
     . split at h
       . cases h;simp
       . rcases bD h with ⟨c,h1,rfl⟩|⟨c,x,h1,h2⟩
         . have:=ih _ _ _ _ _ h1;simp at *;omega
         . have g1:=ih _ _ _ _ _ h1
           split at h2
           . rcases bD h2 with ⟨d,h3,rfl⟩|⟨d,y,h3,h4⟩
             . have:=ih _ _ _ _ _ h3;simp at *;omega
             . have g2:=ih _ _ _ _ _ h3
               split at h4
               . rcases bD h4 with ⟨d,h5,rfl⟩|⟨d,y,h5,h6⟩
                 . have:=ih _ _ _ _ _ h5;simp at *;omega
                 . have g3:=ih _ _ _ _ _ h5
                   split at h6 <;> cases h6 <;> simp at * <;> omega
               . cases h4;simp at *;omega
           . cases h2;simp at *;omega
     . split at h
       . cases h;simp
       . cases h;simp
  | 4,h=>
   simp only[P] at h;split at h
   . rcases bD h with ⟨c,h1,rfl⟩|⟨c,x,h1,h2⟩
     . have:=ih _ _ _ _ _ h1;simp at *;omega
     . have h3:=ih _ _ _ _ _ h1
       have h4:=ih _ _ _ _ _ h2;simp at *;omega
   . cases h;simp
  | n+5,h=>
   simp only[P] at h;split at h
   . rcases bD h with ⟨c,h1,rfl⟩|⟨c,x,h1,h2⟩
     . have:=ih _ _ _ _ _ h1;simp at *;omega
     . have h3:=ih _ _ _ _ _ h1
       have h4:=ih _ _ _ _ _ h2;simp at *;omega
   . cases h;simp
def fD(tag:Nat):Nat:=if tag=0 then 3 else if tag=1 then 2 else if tag=2 then 1 else 0
theorem p6{toks:List Tok}{a:Nat}{x:UInt8}{l:List UInt8}(h:cC toks a (x::l)=true):a<toks.length:=by
 rcases Nat.lt_or_ge a toks.length with h1|h1
 . exact h1
 . rw[cC,tx,List.getElem?_eq_none h1] at h
   simp at h
theorem fJ{p:PR}{k:Nat->Value->PR}(h1:p≠none)(h2:∀b x,p=some (b,some x)->k b x≠none):kC p k≠none:=by
 unfold kC;split
 . exact absurd rfl h1
 . simp
 . exact h2 _ _ rfl
theorem Ms(toks:List Tok):∀(f tag nest a:Nat) (acc:Value),4*(toks.length-a)+fD tag<f->P toks f tag nest a acc≠none:=by
 intro f;induction f with
 | zero=>intro tag nest a acc h;omega
 | succ f ih=>
  intro tag nest a acc h;match tag,h with
  | 0,h=>
   simp only[P];simp[fD] at h;refine fJ (ih _ _ _ _ (by simp[fD];omega)) fun b x hx=>?_;have hge:=Az _ _ _ _ _ _ _ hx;split
   . rename_i ht
     have hl:=p6 ht;refine fJ (ih _ _ _ _ (by simp[fD] at *;omega)) fun c y hy=>by simp
   . simp
  | 1,h=>
   simp only[P];simp[fD] at h;refine fJ (ih _ _ _ _ (by simp[fD];omega)) fun b x hx=>?_;have hge:=Az _ _ _ _ _ _ _ hx;exact ih _ _ _ _ (by simp[fD] at *;omega)
  | 2,h=>
   simp only[P];simp[fD] at h;refine fJ (ih _ _ _ _ (by simp[fD];omega)) fun b x hx=>?_;have hge:=Az _ _ _ _ _ _ _ hx;exact ih _ _ _ _ (by simp[fD] at *;omega)
  | 3,h=>
   simp only[P];simp[fD] at h;split
   . rename_i ht
     have hl:=p6 ht;split
     . simp
     . refine fJ (ih _ _ _ _ (by simp[fD];omega)) fun b x hx=>?_
       split <;> simp
   . split
     . rename_i ht
       have hl:=p6 ht;split
       . simp
       . refine fJ (ih _ _ _ _ (by simp[fD];omega)) fun b x hx=>?_
         have hge:=Az _ _ _ _ _ _ _ hx;split
         . refine fJ (ih _ _ _ _ (by simp[fD] at *;omega)) fun b x hx=>?_
           have hge:=Az _ _ _ _ _ _ _ hx;split
           . refine fJ (ih _ _ _ _ (by simp[fD] at *;omega)) fun b x hx=>?_
             split <;> simp
           . simp
         . simp
     . split <;> simp
  | 4,h=>
   simp only[P];simp[fD] at h;split
   . rename_i ht
     have hl:=p6 ht;refine fJ (ih _ _ _ _ (by simp[fD];omega)) fun b x hx=>?_;have hge:=Az _ _ _ _ _ _ _ hx;exact ih _ _ _ _ (by simp[fD] at *;omega)
   . simp
  | n+5,h=>
   simp only[P];simp[fD] at h;split
   . rename_i ht
     have hl:=p6 ht;refine fJ (ih _ _ _ _ (by simp[fD];omega)) fun b x hx=>?_;have hge:=Az _ _ _ _ _ _ _ hx;exact ih _ _ _ _ (by simp[fD] at *;omega)
   . simp
def kV(toks:List Tok)(a:Nat):Nat×Option Value:=(P toks 1700 0 0 a .nilIface).getD (a,none)
theorem tG{toks:List Tok}(hw:Wf toks)(a:Nat):P toks 1700 0 0 a .nilIface=some (kV toks a):=by
 have h:=Ms toks 1700 0 0 a .nilIface (by have:=hw.le;simp[fD];omega);unfold kV;cases hp:P toks 1700 0 0 a .nilIface with
 | none=>exact absurd hp h
 | some z=>rfl
theorem FO{toks:List Tok}(hw:Wf toks)(a:Nat):a<=(kV toks a).1:=Az _ _ _ _ _ _ _ (tG hw a)
theorem AA{toks:List Tok}(hw:Wf toks){a b:Nat}{x:Value}(h:kV toks a=(b,some x)):Jg x:=sO _ _ _ _ _ _ _ _ ((tG hw a).trans (congrArg some h)) (.inl (by omega))
theorem tH{toks:List Tok}(hw:Wf toks)(pb tb cap a:Nat)(w:World)(ha:a<toks.length)(hP:PS toks pb tb cap a 0 w.heap) :
 Calls Tryz.prog 157 #[.pointer (some ⟨pb,0,none⟩)] w (rW toks pb tb cap 0 (kV toks a).1 (kV toks a).2 w):=
 (K4 hw 1700 1700 (Nat.le_refl _)).1 pb tb cap 0 a _ _ w (tG hw a) ha (by omega) hP

theorem jL{t:ByteArray}(h:bR t=true):t≠⟨#[]⟩:=by
 rintro rfl;rw[show bR ⟨#[]⟩=false from by decide] at h;cases h
theorem iG(toks:List Tok)(pb tb cap a nest:Nat)(w:World)(h:PS toks pb tb cap a nest w.heap)(ha:a<toks.length)(hl:a<401)(hz:(tx toks a).size<=maxLen)(hn:bR (tx toks a)=true) :
 Calls Tryz.prog 155 #[.pointer (some ⟨pb,0,none⟩)] w fun e w'=>e = .returned (.tuple #[.string (tx toks a),.bool true])/\PS toks pb tb cap (a+1) nest w'.heap/\Fr [pb] w w':=by
 have HH:=hid h;have HZ:=hid hz;clear h hz;go_enter Tryz.func155,Tryz.ntmps155;go_wp2_with (first
  | (go_at_call 142;go_must (refine (cT toks pb tb cap a nest _ HH.out ha).mono ?_;rintro e w1⟨rfl,hb⟩;have HB:=hid hb;have H1:=hid (HH.out.below hb);have c1:=H1.out.c1;have f1:=H1.out.f 1;clear hb))
  | (go_at_call 35;go_must (refine (jK _ _ HZ.out).mono ?_;rintro e w2⟨rfl,rfl⟩)))
 go_ret2;have:=H1.out.at (a+1)
 exact⟨rfl,by simpa using this,(Fr.of_below HB.out).setCell _ (.inl (by simp)) _⟩
theorem Dx(toks:List Tok)(pb tb cap a nest:Nat)(w:World)(h:PS toks pb tb cap a nest w.heap)(ha:a<toks.length)(hz:(tx toks a).size<=maxLen)(hn:bR (tx toks a)=false) :
 Calls Tryz.prog 155 #[.pointer (some ⟨pb,0,none⟩)] w fun e w'=>e = .returned (.tuple #[.string ⟨#[]⟩,.bool false])/\PS toks pb tb cap a nest w'.heap/\Fr [pb] w w':=by
 have HH:=hid h;have HZ:=hid hz;clear h hz;go_enter Tryz.func155,Tryz.ntmps155;go_wp2_with (first
  | (go_at_call 142;go_must (refine (cT toks pb tb cap a nest _ HH.out ha).mono ?_;rintro e w1⟨rfl,hb⟩;have HB:=hid hb;have H1:=hid (HH.out.below hb);clear hb))
  | (go_at_call 35;go_must (refine (jK _ _ HZ.out).mono ?_;rintro e w2⟨rfl,rfl⟩)))
 go_ret2;exact⟨rfl,H1.out,Fr.of_below HB.out⟩
def mM(toks:List Tok)(a:Nat):Bool:=cC toks a [105,110,116]||cC toks a [98,111,111,108]
theorem jA(toks:List Tok)(pb tb cap a nest:Nat)(w:World)(h:PS toks pb tb cap a nest w.heap)(ha:a<toks.length)(hl:toks.length<=401)(hn:mM toks a=true) :
 Calls Tryz.prog 156 #[.pointer (some ⟨pb,0,none⟩)] w fun e w'=>e = .returned (.tuple #[.string (tx toks a),.bool true])/\PS toks pb tb cap (a+1) nest w'.heap/\Fr [pb] w w':=by
 have HH:=hid h;clear h;cases h1:cC toks a [105,110,116] with
 | true=>
  have HT:Hid (bB (tx toks a) ⟨#[105,110,116]⟩=true):=hid ((aR toks a [105,110,116]).symm.trans h1);clear h1 hn;go_enter Tryz.func156,Tryz.ntmps156;go_wp2_with (go_at_call 142;go_must (refine (cT toks pb tb cap a nest _ HH.out ha).mono ?_;rintro e w1⟨rfl,hb⟩;have HB:=hid hb;have H1:=hid (HH.out.below hb);clear hb))
  go_wp2_with (go_at_call 143;go_must (refine (aT toks pb tb cap a nest _ _ H1.out ha hl HT.out).mono ?_;rintro e w2⟨rfl,hP2,hF2⟩;have HP2:=hid hP2;have HF2:=hid hF2;clear hP2 hF2))
  go_ret2;exact⟨rfl,HP2.out,(Fr.of_below HB.out).trans HF2.out⟩
 | false=>
  have h2:cC toks a [98,111,111,108]=true:=by simpa[mM,h1] using hn
  have HT:Hid (bB (tx toks a) ⟨#[105,110,116]⟩=false):=hid ((aR toks a [105,110,116]).symm.trans h1);have HT2:Hid (bB (tx toks a) ⟨#[98,111,111,108]⟩=true):=hid ((aR toks a [98,111,111,108]).symm.trans h2);clear h1 hn h2;go_enter Tryz.func156,Tryz.ntmps156;go_wp2_with (go_at_call 142;go_must (refine (cT toks pb tb cap a nest _ HH.out ha).mono ?_;rintro e w1⟨rfl,hb⟩;have HB:=hid hb;have H1:=hid (HH.out.below hb);clear hb))
  go_wp2_with fail
  refine (dF toks pb tb cap a nest _ _ H1.out ha HT.out).mono ?_;rintro e w2⟨rfl,hP2,hF2⟩;have HP2:=hid hP2;have HF2:=hid hF2;clear hP2 hF2;go_wp2_with fail
  refine (aT toks pb tb cap a nest _ _ HP2.out ha hl HT2.out).mono ?_;rintro e w3⟨rfl,hP3,hF3⟩;have HP3:=hid hP3;have HF3:=hid hF3;clear hP3 hF3;go_wp2;go_ret2;exact⟨rfl,HP3.out,((Fr.of_below HB.out).trans HF2.out).trans HF3.out⟩
theorem AB(toks:List Tok)(pb tb cap a nest:Nat)(w:World)(h:PS toks pb tb cap a nest w.heap)(ha:a<toks.length)(hn:mM toks a=false) :
 Calls Tryz.prog 156 #[.pointer (some ⟨pb,0,none⟩)] w fun e w'=>e = .returned (.tuple #[.string (tx toks a),.bool false])/\PS toks pb tb cap a nest w'.heap/\Fr [pb] w w':=by
 have HH:=hid h;simp only[mM,Bool.or_eq_false_iff] at hn;obtain⟨h1,h2⟩:=hn;have HT:Hid (bB (tx toks a) ⟨#[105,110,116]⟩=false):=hid ((aR toks a [105,110,116]).symm.trans h1);have HT2:Hid (bB (tx toks a) ⟨#[98,111,111,108]⟩=false):=hid ((aR toks a [98,111,111,108]).symm.trans h2);clear h1 h2 h;go_enter Tryz.func156,Tryz.ntmps156;go_wp2_with (go_at_call 142;go_must (refine (cT toks pb tb cap a nest _ HH.out ha).mono ?_;rintro e w1⟨rfl,hb⟩;have HB:=hid hb;have H1:=hid (HH.out.below hb);clear hb))
 go_wp2_with fail
 refine (dF toks pb tb cap a nest _ _ H1.out ha HT.out).mono ?_;rintro e w2⟨rfl,hP2,hF2⟩;have HP2:=hid hP2;have HF2:=hid hF2;clear hP2 hF2;go_wp2_with fail
 refine (dF toks pb tb cap a nest _ _ HP2.out ha HT2.out).mono ?_;rintro e w3⟨rfl,hP3,hF3⟩;have HP3:=hid hP3;have HF3:=hid hF3;clear hP3 hF3;go_wp2;go_ret2;exact⟨rfl,HP3.out,((Fr.of_below HB.out).trans HF2.out).trans HF3.out⟩
structure It where
 kind:Nat
 num:Nat
 name:ByteArray
 typ:ByteArray
 ex:Value
def aP(i:It):List Value:=[.int .i64 i.kind,.int .i64 i.num,.string i.name,.string i.typ,i.ex]
def N8(i:It):Value:=.agg #[.int .i64 i.kind,.int .i64 i.num,.string i.name,.string i.typ,i.ex]
def kG(toks:List Tok)(pb tb cap b:Nat)(r:Option It)(w:World):Ending->World->Prop:=fun e w'=>
 (∃v,e = .returned (.tuple #[v,.bool r.isSome])/\(∃(k n:Int) (nm ty:ByteArray) (ex:Value),v = .agg #[.int .i64 k,.int .i64 n,.string nm,.string ty,ex]/\N7 ex)/\(∀x,r=some x->v=N8 x))/\PS toks pb tb cap b 0 w'.heap/\b<toks.length/\Fr [pb] w w'
structure RS (toks:List Tok) (pb tb cap:Nat) (w wr:World) (c:Nat) (rs:Array Value):Prop where
 pl:pb<w.heap.size
 tl:tb<w.heap.size
 ps:PS toks pb tb cap c 0 wr.heap
 fr:Fr [pb] w wr
 rb:wr.heap[w.heap.size]? = some (.cells rs 137)
structure LS (toks:List Tok) (pb tb cap:Nat) (w:World) (lb:Nat) (wr:World) (c:Nat) (rs cs:Array Value):Prop extends RS toks pb tb cap w wr c rs where
 new:w.heap.size<lb
 ch:wr.heap[lb]? = some (.cells cs 137)
theorem RS.start{toks:List Tok}{pb tb cap c:Nat}{w:World}(h:PS toks pb tb cap c 0 w.heap)(rs:Array Value):RS toks pb tb cap w (w.alloc (.cells rs 137)) c rs:=by
 have h0:=h.t;obtain⟨cur,hc,_⟩:=h0;exact⟨aB h.p,aB hc,h.below ((Below.refl _ _).alloc (Nat.le_refl _) _),(Fr.refl _ _).alloc _,aI _ _⟩
theorem RS.call{toks:List Tok}{pb tb cap c d:Nat}{w wr w':World}{rs:Array Value}(h:RS toks pb tb cap w wr c rs)(hf:Fr [pb] wr w')(hp:PS toks pb tb cap d 0 w'.heap):RS toks pb tb cap w w' d rs:=
 ⟨h.pl,h.tl,hp,h.fr.trans hf,hf.heap h.rb (by have:=h.pl;simp;omega)⟩
theorem RS.item{toks:List Tok}{pb tb cap c:Nat}{w w1:World}{rs:Array Value}(h:RS toks pb tb cap w w1 c rs)(cs:Array Value):LS toks pb tb cap w w1.heap.size (w1.alloc (.cells cs 137)) c rs cs:=
 ⟨⟨h.pl,h.tl,h.ps.below ((Below.refl _ _).alloc (Nat.le_refl _) _),h.fr.alloc _,aC _ h.rb⟩,aB h.rb,aI _ _⟩
theorem RS.cell{toks:List Tok}{pb tb cap c:Nat}{w wr:World}{rs:Array Value}(h:RS toks pb tb cap w wr c rs)(i:Nat):wr.cell? ⟨w.heap.size,i,none⟩=rs[i]?:=aA h.rb
theorem RS.f{toks:List Tok}{pb tb cap c:Nat}{w wr:World}{rs:Array Value}(h:RS toks pb tb cap w wr c rs)(i:Nat):wr.frozen? ⟨w.heap.size,i,none⟩=false:=aE h.rb
theorem RS.set{toks:List Tok}{pb tb cap c:Nat}{w wr:World}{rs:Array Value}(h:RS toks pb tb cap w wr c rs)(i:Nat)(v:Value):RS toks pb tb cap w (wr.setCell ⟨w.heap.size,i,none⟩ v) c (rs.setIfInBounds i v):=
 ⟨h.pl,h.tl,h.ps.other (by have:=h.pl;omega) (by have:=h.tl;omega) v,h.fr.setCell _ (.inr (Nat.le_refl _)) _,aH (i:=i) h.rb v⟩
def N9(w:World)(b:Nat)(v0 v1 v2 v3 v4:Value):World:=((((w.setCell ⟨b,0,none⟩ v0).setCell ⟨b,1,none⟩ v1).setCell ⟨b,2,none⟩ v2).setCell ⟨b,3,none⟩ v3).setCell ⟨b,4,none⟩ v4
theorem RS.put{toks:List Tok}{pb tb cap c:Nat}{w wr:World}{x0 x1 x2 x3 x4:Value}(h:RS toks pb tb cap w wr c #[x0,x1,x2,x3,x4])(v0 v1 v2 v3 v4:Value):RS toks pb tb cap w (N9 wr w.heap.size v0 v1 v2 v3 v4) c #[v0,v1,v2,v3,v4]:=by
 have h0:RS toks pb tb cap w _ c #[v0,x1,x2,x3,x4]:=h.set 0 v0;have h1:RS toks pb tb cap w _ c #[v0,v1,x2,x3,x4]:=h0.set 1 v1;have h2:RS toks pb tb cap w _ c #[v0,v1,v2,x3,x4]:=h1.set 2 v2;have h3:RS toks pb tb cap w _ c #[v0,v1,v2,v3,x4]:=h2.set 3 v3;exact h3.set 4 v4
theorem LS.call{toks:List Tok}{pb tb cap c d lb:Nat}{w wr w':World}{rs cs:Array Value}(h:LS toks pb tb cap w lb wr c rs cs)(hf:Fr [pb] wr w')(hp:PS toks pb tb cap d 0 w'.heap):LS toks pb tb cap w lb w' d rs cs:=
 ⟨h.toRS.call hf hp,h.new,hf.heap h.ch (by have:=h.pl;have:=h.new;simp;omega)⟩
theorem LS.set{toks:List Tok}{pb tb cap c lb:Nat}{w wr:World}{rs cs:Array Value}(h:LS toks pb tb cap w lb wr c rs cs)(i:Nat)(v:Value):LS toks pb tb cap w lb (wr.setCell ⟨lb,i,none⟩ v) c rs (cs.setIfInBounds i v):=
 ⟨⟨h.pl,h.tl,h.ps.other (by have:=h.pl;have:=h.new;omega) (by have:=h.tl;have:=h.new;omega) v,h.fr.setCell _ (.inr (Nat.le_of_lt h.new)) _,(aD (by have:=h.new;omega) _).trans h.rb⟩,h.new,aH (i:=i) h.ch v⟩
theorem LS.cell{toks:List Tok}{pb tb cap c lb:Nat}{w wr:World}{rs cs:Array Value}(h:LS toks pb tb cap w lb wr c rs cs)(i:Nat):wr.cell? ⟨lb,i,none⟩=cs[i]?:=aA h.ch
theorem LS.f{toks:List Tok}{pb tb cap c lb:Nat}{w wr:World}{rs cs:Array Value}(h:LS toks pb tb cap w lb wr c rs cs)(i:Nat):wr.frozen? ⟨lb,i,none⟩=false:=aE h.ch
def nZ(toks:List Tok)(a:Nat):Nat×Option It:=
 if bR (tx toks a) then (if cC toks (a+1) [59] then (a+2,some ⟨0,a,tx toks a,⟨#[]⟩,.nilIface⟩) else (a+1,none)) else (a,none)
theorem Ji{toks:List Tok}(hw:Wf toks)(pb tb cap a:Nat)(w:World)(ha:a<toks.length)(hP:PS toks pb tb cap a 0 w.heap) :
 Calls Tryz.prog 144 #[.pointer (some ⟨pb,0,none⟩)] w (kG toks pb tb cap (nZ toks a).1 (nZ toks a).2 w):=by
 have HW:=hid hw;have HL:=hid hw.le;have HZ:=hid (show (tx toks a).size<=maxLen by have:=hw.size a;unfold maxLen;omega);have ha4:Hid (a<401):=hid (by have:=hw.le;omega);have hz:=RS.start hP #[.int .i64 0,.int .i64 0,.string ⟨#[]⟩,.string ⟨#[]⟩,.nilIface];have c1:=hz.ps.c1;have hz2:=hz.item #[.int .i64 0,.int .i64 a,.string ⟨#[]⟩,.string ⟨#[]⟩,.nilIface];rw[show (w.alloc (.cells #[.int .i64 0,.int .i64 0,.string ⟨#[]⟩,.string ⟨#[]⟩,.nilIface] 137)).heap.size=w.heap.size+1 from by simp] at hz2;have HC0:=hid hz2;clear hw hP hz hz2;cases hn:bR (tx toks a) with
 | false=>
  have hu:nZ toks a=(a,none):=by simp[nZ,hn]
  rw[hu];have HN:=hid hn;clear hu hn;go_enter Tryz.func144,Tryz.ntmps144;go_wp2_with fail
  refine (Dx toks pb tb cap a 0 _ HC0.out.ps ha HZ.out HN.out).mono ?_;rintro e w1⟨rfl,hP1,hF1⟩;have hc1:=HC0.out.call hF1 hP1;have q2:w1.cell? ⟨w.heap.size+1,2,none⟩=some (.string ⟨#[]⟩):=hc1.cell 2;have g2:=hc1.f 2;have hc2:=hc1.set 2 (.string ⟨#[]⟩);have r0:(w1.setCell ⟨w.heap.size+1,2,none⟩ (.string ⟨#[]⟩)).cell? ⟨w.heap.size,0,none⟩=some (.int .i64 0):=hc2.toRS.cell 0;have rf0:=hc2.toRS.f 0;have r1:(w1.setCell ⟨w.heap.size+1,2,none⟩ (.string ⟨#[]⟩)).cell? ⟨w.heap.size,1,none⟩=some (.int .i64 0):=hc2.toRS.cell 1;have rf1:=hc2.toRS.f 1;have r2:(w1.setCell ⟨w.heap.size+1,2,none⟩ (.string ⟨#[]⟩)).cell? ⟨w.heap.size,2,none⟩=some (.string ⟨#[]⟩):=hc2.toRS.cell 2;have rf2:=hc2.toRS.f 2;have r3:(w1.setCell ⟨w.heap.size+1,2,none⟩ (.string ⟨#[]⟩)).cell? ⟨w.heap.size,3,none⟩=some (.string ⟨#[]⟩):=hc2.toRS.cell 3;have rf3:=hc2.toRS.f 3;have r4:(w1.setCell ⟨w.heap.size+1,2,none⟩ (.string ⟨#[]⟩)).cell? ⟨w.heap.size,4,none⟩=some .nilIface:=hc2.toRS.cell 4;have rf4:=hc2.toRS.f 4;have hR:RS toks pb tb cap w ((((((w1.setCell ⟨w.heap.size+1,2,none⟩ (.string ⟨#[]⟩)).setCell ⟨w.heap.size,0,none⟩ (.int .i64 0)).setCell ⟨w.heap.size,1,none⟩ (.int .i64 0)).setCell ⟨w.heap.size,2,none⟩ (.string ⟨#[]⟩)).setCell ⟨w.heap.size,3,none⟩ (.string ⟨#[]⟩)).setCell ⟨w.heap.size,4,none⟩ .nilIface) a #[.int .i64 0,.int .i64 0,.string ⟨#[]⟩,.string ⟨#[]⟩,.nilIface]:=hc2.toRS.put (.int .i64 0) (.int .i64 0) (.string ⟨#[]⟩) (.string ⟨#[]⟩) .nilIface;have y0:((((((w1.setCell ⟨w.heap.size+1,2,none⟩ (.string ⟨#[]⟩)).setCell ⟨w.heap.size,0,none⟩ (.int .i64 0)).setCell ⟨w.heap.size,1,none⟩ (.int .i64 0)).setCell ⟨w.heap.size,2,none⟩ (.string ⟨#[]⟩)).setCell ⟨w.heap.size,3,none⟩ (.string ⟨#[]⟩)).setCell ⟨w.heap.size,4,none⟩ .nilIface).cell? ⟨w.heap.size,0,none⟩=some (.int .i64 0):=hR.cell 0;have y1:((((((w1.setCell ⟨w.heap.size+1,2,none⟩ (.string ⟨#[]⟩)).setCell ⟨w.heap.size,0,none⟩ (.int .i64 0)).setCell ⟨w.heap.size,1,none⟩ (.int .i64 0)).setCell ⟨w.heap.size,2,none⟩ (.string ⟨#[]⟩)).setCell ⟨w.heap.size,3,none⟩ (.string ⟨#[]⟩)).setCell ⟨w.heap.size,4,none⟩ .nilIface).cell? ⟨w.heap.size,1,none⟩=some (.int .i64 0):=hR.cell 1;have y2:((((((w1.setCell ⟨w.heap.size+1,2,none⟩ (.string ⟨#[]⟩)).setCell ⟨w.heap.size,0,none⟩ (.int .i64 0)).setCell ⟨w.heap.size,1,none⟩ (.int .i64 0)).setCell ⟨w.heap.size,2,none⟩ (.string ⟨#[]⟩)).setCell ⟨w.heap.size,3,none⟩ (.string ⟨#[]⟩)).setCell ⟨w.heap.size,4,none⟩ .nilIface).cell? ⟨w.heap.size,2,none⟩=some (.string ⟨#[]⟩):=hR.cell 2;have y3:((((((w1.setCell ⟨w.heap.size+1,2,none⟩ (.string ⟨#[]⟩)).setCell ⟨w.heap.size,0,none⟩ (.int .i64 0)).setCell ⟨w.heap.size,1,none⟩ (.int .i64 0)).setCell ⟨w.heap.size,2,none⟩ (.string ⟨#[]⟩)).setCell ⟨w.heap.size,3,none⟩ (.string ⟨#[]⟩)).setCell ⟨w.heap.size,4,none⟩ .nilIface).cell? ⟨w.heap.size,3,none⟩=some (.string ⟨#[]⟩):=hR.cell 3;have y4:((((((w1.setCell ⟨w.heap.size+1,2,none⟩ (.string ⟨#[]⟩)).setCell ⟨w.heap.size,0,none⟩ (.int .i64 0)).setCell ⟨w.heap.size,1,none⟩ (.int .i64 0)).setCell ⟨w.heap.size,2,none⟩ (.string ⟨#[]⟩)).setCell ⟨w.heap.size,3,none⟩ (.string ⟨#[]⟩)).setCell ⟨w.heap.size,4,none⟩ .nilIface).cell? ⟨w.heap.size,4,none⟩=some .nilIface:=hR.cell 4;have HR:=hid hR;clear hP1 hc1 hc2 hF1 hR;go_wp2;refine bodyPost_ret (v:=.tuple #[.agg #[.int .i64 0,.int .i64 0,.string ⟨#[]⟩,.string ⟨#[]⟩,.nilIface],.bool false]) (by simp[results,Tryz.results144,go_sem,y0,y1,y2,y3,y4];try rfl) rfl ?_;exact⟨⟨_,rfl,⟨_,_,_,_,_,rfl,.inl rfl⟩,fun x h=>by cases h⟩,HR.out.ps,ha,HR.out.fr⟩
 | true=>
  have HN:=hid hn;have HX:=hid (HW.out.next ha (jL hn));cases ht:cC toks (a+1) [59] with
  | false=>
   have hu:nZ toks a=(a+1,none):=by simp[nZ,hn,ht]
   rw[hu];have HT:Hid (bB (tx toks (a+1)) ⟨#[59]⟩=false):=hid ((aR toks (a+1) [59]).symm.trans ht);clear hu hn ht;go_enter Tryz.func144,Tryz.ntmps144;go_wp2_with fail
   refine (iG toks pb tb cap a 0 _ HC0.out.ps ha ha4.out HZ.out HN.out).mono ?_;rintro e w1⟨rfl,hP1,hF1⟩;have hc1:=HC0.out.call hF1 hP1;have q2:w1.cell? ⟨w.heap.size+1,2,none⟩=some (.string ⟨#[]⟩):=hc1.cell 2;have g2:=hc1.f 2;have hc2:LS toks pb tb cap w (w.heap.size+1) (w1.setCell ⟨w.heap.size+1,2,none⟩ (.string (tx toks a))) (a+1) #[.int .i64 0,.int .i64 0,.string ⟨#[]⟩,.string ⟨#[]⟩,.nilIface] #[.int .i64 0,.int .i64 a,.string (tx toks a),.string ⟨#[]⟩,.nilIface]:=hc1.set 2 _;have HC2:=hid hc2;have HF1:=hid hF1;clear hP1 hc1 hc2 hF1;have e0:(w1.setCell ⟨w.heap.size+1,2,none⟩ (.string (tx toks a))).drew.cell? ⟨w.heap.size+1,0,none⟩=some (.int .i64 0):=HC2.out.cell 0;have e1:(w1.setCell ⟨w.heap.size+1,2,none⟩ (.string (tx toks a))).drew.cell? ⟨w.heap.size+1,1,none⟩=some (.int .i64 a):=HC2.out.cell 1;have e2:(w1.setCell ⟨w.heap.size+1,2,none⟩ (.string (tx toks a))).drew.cell? ⟨w.heap.size+1,2,none⟩=some (.string (tx toks a)):=HC2.out.cell 2;have e3:(w1.setCell ⟨w.heap.size+1,2,none⟩ (.string (tx toks a))).drew.cell? ⟨w.heap.size+1,3,none⟩=some (.string ⟨#[]⟩):=HC2.out.cell 3;have e4:(w1.setCell ⟨w.heap.size+1,2,none⟩ (.string (tx toks a))).drew.cell? ⟨w.heap.size+1,4,none⟩=some (.nilIface):=HC2.out.cell 4;go_wp2_with fail
   go_region_with (go_at_call 143;go_must (refine (dF toks pb tb cap _ 0 _ _ ?hps HX.out HT.out).mono ?_;(case hps=>exact HC2.out.ps);rintro e w2⟨rfl,hP2,hF2⟩;have hc3:=HC2.out.call ((Fr.refl _ _).drew.trans hF2) hP2;have k0:w2.cell? ⟨w.heap.size+1,0,none⟩=some (.int .i64 0):=hc3.cell 0;have k1:w2.cell? ⟨w.heap.size+1,1,none⟩=some (.int .i64 a):=hc3.cell 1;have k2:w2.cell? ⟨w.heap.size+1,2,none⟩=some (.string (tx toks a)):=hc3.cell 2;have k3:w2.cell? ⟨w.heap.size+1,3,none⟩=some (.string ⟨#[]⟩):=hc3.cell 3;have k4:w2.cell? ⟨w.heap.size+1,4,none⟩=some (.nilIface):=hc3.cell 4;have r0:w2.cell? ⟨w.heap.size,0,none⟩=some (.int .i64 0):=hc3.toRS.cell 0;have r1:w2.cell? ⟨w.heap.size,1,none⟩=some (.int .i64 0):=hc3.toRS.cell 1;have r2:w2.cell? ⟨w.heap.size,2,none⟩=some (.string ⟨#[]⟩):=hc3.toRS.cell 2;have r3:w2.cell? ⟨w.heap.size,3,none⟩=some (.string ⟨#[]⟩):=hc3.toRS.cell 3;have r4:w2.cell? ⟨w.heap.size,4,none⟩=some (.nilIface):=hc3.toRS.cell 4;have rf0:=hc3.toRS.f 0;have rf1:=hc3.toRS.f 1;have rf2:=hc3.toRS.f 2;have rf3:=hc3.toRS.f 3;have rf4:=hc3.toRS.f 4;have HC3:=hid hc3;clear hP2 hF2 hc3))
   all_goals
    have hR:RS toks pb tb cap w (((((w2.setCell ⟨w.heap.size,0,none⟩ (.int .i64 0)).setCell ⟨w.heap.size,1,none⟩ (.int .i64 a)).setCell ⟨w.heap.size,2,none⟩ (.string (tx toks a))).setCell ⟨w.heap.size,3,none⟩ (.string ⟨#[]⟩)).setCell ⟨w.heap.size,4,none⟩ .nilIface) (a+1) #[.int .i64 0,.int .i64 a,.string (tx toks a),.string ⟨#[]⟩,.nilIface]:=HC3.out.toRS.put (.int .i64 0) (.int .i64 a) (.string (tx toks a)) (.string ⟨#[]⟩) .nilIface;have y0:(((((w2.setCell ⟨w.heap.size,0,none⟩ (.int .i64 0)).setCell ⟨w.heap.size,1,none⟩ (.int .i64 a)).setCell ⟨w.heap.size,2,none⟩ (.string (tx toks a))).setCell ⟨w.heap.size,3,none⟩ (.string ⟨#[]⟩)).setCell ⟨w.heap.size,4,none⟩ .nilIface).cell? ⟨w.heap.size,0,none⟩=some (.int .i64 0):=hR.cell 0;have y1:(((((w2.setCell ⟨w.heap.size,0,none⟩ (.int .i64 0)).setCell ⟨w.heap.size,1,none⟩ (.int .i64 a)).setCell ⟨w.heap.size,2,none⟩ (.string (tx toks a))).setCell ⟨w.heap.size,3,none⟩ (.string ⟨#[]⟩)).setCell ⟨w.heap.size,4,none⟩ .nilIface).cell? ⟨w.heap.size,1,none⟩=some (.int .i64 a):=hR.cell 1;have y2:(((((w2.setCell ⟨w.heap.size,0,none⟩ (.int .i64 0)).setCell ⟨w.heap.size,1,none⟩ (.int .i64 a)).setCell ⟨w.heap.size,2,none⟩ (.string (tx toks a))).setCell ⟨w.heap.size,3,none⟩ (.string ⟨#[]⟩)).setCell ⟨w.heap.size,4,none⟩ .nilIface).cell? ⟨w.heap.size,2,none⟩=some (.string (tx toks a)):=hR.cell 2;have y3:(((((w2.setCell ⟨w.heap.size,0,none⟩ (.int .i64 0)).setCell ⟨w.heap.size,1,none⟩ (.int .i64 a)).setCell ⟨w.heap.size,2,none⟩ (.string (tx toks a))).setCell ⟨w.heap.size,3,none⟩ (.string ⟨#[]⟩)).setCell ⟨w.heap.size,4,none⟩ .nilIface).cell? ⟨w.heap.size,3,none⟩=some (.string ⟨#[]⟩):=hR.cell 3;have y4:(((((w2.setCell ⟨w.heap.size,0,none⟩ (.int .i64 0)).setCell ⟨w.heap.size,1,none⟩ (.int .i64 a)).setCell ⟨w.heap.size,2,none⟩ (.string (tx toks a))).setCell ⟨w.heap.size,3,none⟩ (.string ⟨#[]⟩)).setCell ⟨w.heap.size,4,none⟩ .nilIface).cell? ⟨w.heap.size,4,none⟩=some .nilIface:=hR.cell 4;have HR:=hid hR;clear hR;go_wp2;refine bodyPost_ret (v:=.tuple #[.agg #[.int .i64 0,.int .i64 a,.string (tx toks a),.string ⟨#[]⟩,.nilIface],.bool false]) (by simp[results,Tryz.results144,go_sem,y0,y1,y2,y3,y4];try rfl) rfl ?_;exact⟨⟨_,rfl,⟨_,_,_,_,_,rfl,.inl rfl⟩,fun x h=>by cases h⟩,HR.out.ps,HX.out,HR.out.fr⟩
  | true=>
   have hu:nZ toks a=(a+2,some ⟨0,a,tx toks a,⟨#[]⟩,.nilIface⟩):=by simp[nZ,hn,ht]
   rw[hu];have HT:Hid (bB (tx toks (a+1)) ⟨#[59]⟩=true):=hid ((aR toks (a+1) [59]).symm.trans ht);have HX2:=hid (HW.out.next_isT HX.out ht);clear hu hn ht;go_enter Tryz.func144,Tryz.ntmps144;go_wp2_with fail
   refine (iG toks pb tb cap a 0 _ HC0.out.ps ha ha4.out HZ.out HN.out).mono ?_;rintro e w1⟨rfl,hP1,hF1⟩;have hc1:=HC0.out.call hF1 hP1;have q2:w1.cell? ⟨w.heap.size+1,2,none⟩=some (.string ⟨#[]⟩):=hc1.cell 2;have g2:=hc1.f 2;have hc2:LS toks pb tb cap w (w.heap.size+1) (w1.setCell ⟨w.heap.size+1,2,none⟩ (.string (tx toks a))) (a+1) #[.int .i64 0,.int .i64 0,.string ⟨#[]⟩,.string ⟨#[]⟩,.nilIface] #[.int .i64 0,.int .i64 a,.string (tx toks a),.string ⟨#[]⟩,.nilIface]:=hc1.set 2 _;have HC2:=hid hc2;have HF1:=hid hF1;clear hP1 hc1 hc2 hF1;have e0:(w1.setCell ⟨w.heap.size+1,2,none⟩ (.string (tx toks a))).drew.cell? ⟨w.heap.size+1,0,none⟩=some (.int .i64 0):=HC2.out.cell 0;have e1:(w1.setCell ⟨w.heap.size+1,2,none⟩ (.string (tx toks a))).drew.cell? ⟨w.heap.size+1,1,none⟩=some (.int .i64 a):=HC2.out.cell 1;have e2:(w1.setCell ⟨w.heap.size+1,2,none⟩ (.string (tx toks a))).drew.cell? ⟨w.heap.size+1,2,none⟩=some (.string (tx toks a)):=HC2.out.cell 2;have e3:(w1.setCell ⟨w.heap.size+1,2,none⟩ (.string (tx toks a))).drew.cell? ⟨w.heap.size+1,3,none⟩=some (.string ⟨#[]⟩):=HC2.out.cell 3;have e4:(w1.setCell ⟨w.heap.size+1,2,none⟩ (.string (tx toks a))).drew.cell? ⟨w.heap.size+1,4,none⟩=some (.nilIface):=HC2.out.cell 4;go_wp2_with fail
   go_region_with (go_at_call 143;go_must (refine (aT toks pb tb cap _ 0 _ _ ?hps HX.out HL.out HT.out).mono ?_;(case hps=>exact HC2.out.ps);rintro e w2⟨rfl,hP2,hF2⟩;have hc3:=HC2.out.call ((Fr.refl _ _).drew.trans hF2) hP2;have k0:w2.cell? ⟨w.heap.size+1,0,none⟩=some (.int .i64 0):=hc3.cell 0;have k1:w2.cell? ⟨w.heap.size+1,1,none⟩=some (.int .i64 a):=hc3.cell 1;have k2:w2.cell? ⟨w.heap.size+1,2,none⟩=some (.string (tx toks a)):=hc3.cell 2;have k3:w2.cell? ⟨w.heap.size+1,3,none⟩=some (.string ⟨#[]⟩):=hc3.cell 3;have k4:w2.cell? ⟨w.heap.size+1,4,none⟩=some (.nilIface):=hc3.cell 4;have r0:w2.cell? ⟨w.heap.size,0,none⟩=some (.int .i64 0):=hc3.toRS.cell 0;have r1:w2.cell? ⟨w.heap.size,1,none⟩=some (.int .i64 0):=hc3.toRS.cell 1;have r2:w2.cell? ⟨w.heap.size,2,none⟩=some (.string ⟨#[]⟩):=hc3.toRS.cell 2;have r3:w2.cell? ⟨w.heap.size,3,none⟩=some (.string ⟨#[]⟩):=hc3.toRS.cell 3;have r4:w2.cell? ⟨w.heap.size,4,none⟩=some (.nilIface):=hc3.toRS.cell 4;have rf0:=hc3.toRS.f 0;have rf1:=hc3.toRS.f 1;have rf2:=hc3.toRS.f 2;have rf3:=hc3.toRS.f 3;have rf4:=hc3.toRS.f 4;have HC3:=hid hc3;clear hP2 hF2 hc3))
   all_goals
    have hR:RS toks pb tb cap w (((((w2.setCell ⟨w.heap.size,0,none⟩ (.int .i64 0)).setCell ⟨w.heap.size,1,none⟩ (.int .i64 a)).setCell ⟨w.heap.size,2,none⟩ (.string (tx toks a))).setCell ⟨w.heap.size,3,none⟩ (.string ⟨#[]⟩)).setCell ⟨w.heap.size,4,none⟩ .nilIface) (a+2) #[.int .i64 0,.int .i64 a,.string (tx toks a),.string ⟨#[]⟩,.nilIface]:=HC3.out.toRS.put (.int .i64 0) (.int .i64 a) (.string (tx toks a)) (.string ⟨#[]⟩) .nilIface;have y0:(((((w2.setCell ⟨w.heap.size,0,none⟩ (.int .i64 0)).setCell ⟨w.heap.size,1,none⟩ (.int .i64 a)).setCell ⟨w.heap.size,2,none⟩ (.string (tx toks a))).setCell ⟨w.heap.size,3,none⟩ (.string ⟨#[]⟩)).setCell ⟨w.heap.size,4,none⟩ .nilIface).cell? ⟨w.heap.size,0,none⟩=some (.int .i64 0):=hR.cell 0;have y1:(((((w2.setCell ⟨w.heap.size,0,none⟩ (.int .i64 0)).setCell ⟨w.heap.size,1,none⟩ (.int .i64 a)).setCell ⟨w.heap.size,2,none⟩ (.string (tx toks a))).setCell ⟨w.heap.size,3,none⟩ (.string ⟨#[]⟩)).setCell ⟨w.heap.size,4,none⟩ .nilIface).cell? ⟨w.heap.size,1,none⟩=some (.int .i64 a):=hR.cell 1;have y2:(((((w2.setCell ⟨w.heap.size,0,none⟩ (.int .i64 0)).setCell ⟨w.heap.size,1,none⟩ (.int .i64 a)).setCell ⟨w.heap.size,2,none⟩ (.string (tx toks a))).setCell ⟨w.heap.size,3,none⟩ (.string ⟨#[]⟩)).setCell ⟨w.heap.size,4,none⟩ .nilIface).cell? ⟨w.heap.size,2,none⟩=some (.string (tx toks a)):=hR.cell 2;have y3:(((((w2.setCell ⟨w.heap.size,0,none⟩ (.int .i64 0)).setCell ⟨w.heap.size,1,none⟩ (.int .i64 a)).setCell ⟨w.heap.size,2,none⟩ (.string (tx toks a))).setCell ⟨w.heap.size,3,none⟩ (.string ⟨#[]⟩)).setCell ⟨w.heap.size,4,none⟩ .nilIface).cell? ⟨w.heap.size,3,none⟩=some (.string ⟨#[]⟩):=hR.cell 3;have y4:(((((w2.setCell ⟨w.heap.size,0,none⟩ (.int .i64 0)).setCell ⟨w.heap.size,1,none⟩ (.int .i64 a)).setCell ⟨w.heap.size,2,none⟩ (.string (tx toks a))).setCell ⟨w.heap.size,3,none⟩ (.string ⟨#[]⟩)).setCell ⟨w.heap.size,4,none⟩ .nilIface).cell? ⟨w.heap.size,4,none⟩=some .nilIface:=hR.cell 4;have HR:=hid hR;clear hR;go_wp2;refine bodyPost_ret (v:=.tuple #[.agg #[.int .i64 0,.int .i64 a,.string (tx toks a),.string ⟨#[]⟩,.nilIface],.bool true]) (by simp[results,Tryz.results144,go_sem,y0,y1,y2,y3,y4];try rfl) rfl ?_;exact⟨⟨_,rfl,⟨_,_,_,_,_,rfl,.inl rfl⟩,fun x h=>by cases h;rfl⟩,HR.out.ps,HX2.out,HR.out.fr⟩

def kD(toks:List Tok)(k a:Nat):Nat×Option It:=
 if cC toks a [108,101,116] then
  if bR (tx toks (a+1)) then
   if cC toks (a+2) [58] then
    if mM toks (a+3) then
     if cC toks (a+4) [61] then
      match kV toks (a+5) with
      | (b,none)=>(b,none)
      | (b,some x)=>if cC toks b [59] then (b+1,some ⟨k,a+1,tx toks (a+1),tx toks (a+3),x⟩) else (b,none)
     else (a+4,none)
    else (a+3,none)
   else (a+2,none)
  else (a+1,none)
 else (a,none)
theorem sP{toks:List Tok}{a:Nat}(h:mM toks a=true):tx toks a≠⟨#[]⟩:=by
 intro e;simp[mM,cC,e] at h
theorem Mt{toks:List Tok}(hw:Wf toks)(pb tb cap k a n:Nat)(hn:n=a+1)(w:World)(ha:a<toks.length)(hP:PS toks pb tb cap a 0 w.heap)
 (h0:cC toks a [108,101,116]=false) :
 Calls Tryz.prog 145 #[.pointer (some ⟨pb,0,none⟩),.int .i64 k] w (kG toks pb tb cap (a) none w):=by
 have HT0:Hid (bB (tx toks a) ⟨#[108,101,116]⟩=false):=hid ((aR toks a [108,101,116]).symm.trans h0);have hz:=RS.start hP #[.int .i64 0,.int .i64 0,.string ⟨#[]⟩,.string ⟨#[]⟩,.nilIface];have HZ0:=hid hz;have HL:=hid hw.le;have HW:=hid hw;have HN0:=hid hn;have ha4:Hid (toks.length<=401):=hid hw.le;clear hz hP hw hn;clear h0;go_enter Tryz.func145,Tryz.ntmps145;go_wp2_with fail
 refine (dF toks pb tb cap a 0 _ _ HZ0.out.ps ha HT0.out).mono ?_;rintro e w1⟨rfl,hP1,hF1⟩;have hz1:=HZ0.out.call hF1 hP1;clear hP1 hF1;have r0:w1.cell? ⟨w.heap.size,0,none⟩=some (.int .i64 0):=hz1.cell 0;have rf0:=hz1.f 0;have r1:w1.cell? ⟨w.heap.size,1,none⟩=some (.int .i64 0):=hz1.cell 1;have rf1:=hz1.f 1;have r2:w1.cell? ⟨w.heap.size,2,none⟩=some (.string ⟨#[]⟩):=hz1.cell 2;have rf2:=hz1.f 2;have r3:w1.cell? ⟨w.heap.size,3,none⟩=some (.string ⟨#[]⟩):=hz1.cell 3;have rf3:=hz1.f 3;have r4:w1.cell? ⟨w.heap.size,4,none⟩=some .nilIface:=hz1.cell 4;have rf4:=hz1.f 4;have hR:RS toks pb tb cap w (((((w1.setCell ⟨w.heap.size,0,none⟩ (.int .i64 0)).setCell ⟨w.heap.size,1,none⟩ (.int .i64 0)).setCell ⟨w.heap.size,2,none⟩ (.string ⟨#[]⟩)).setCell ⟨w.heap.size,3,none⟩ (.string ⟨#[]⟩)).setCell ⟨w.heap.size,4,none⟩ .nilIface) (a) #[.int .i64 0,.int .i64 0,.string ⟨#[]⟩,.string ⟨#[]⟩,.nilIface]:=hz1.put (.int .i64 0) (.int .i64 0) (.string ⟨#[]⟩) (.string ⟨#[]⟩) .nilIface;have y0:(((((w1.setCell ⟨w.heap.size,0,none⟩ (.int .i64 0)).setCell ⟨w.heap.size,1,none⟩ (.int .i64 0)).setCell ⟨w.heap.size,2,none⟩ (.string ⟨#[]⟩)).setCell ⟨w.heap.size,3,none⟩ (.string ⟨#[]⟩)).setCell ⟨w.heap.size,4,none⟩ .nilIface).cell? ⟨w.heap.size,0,none⟩=some (.int .i64 0):=hR.cell 0;have y1:(((((w1.setCell ⟨w.heap.size,0,none⟩ (.int .i64 0)).setCell ⟨w.heap.size,1,none⟩ (.int .i64 0)).setCell ⟨w.heap.size,2,none⟩ (.string ⟨#[]⟩)).setCell ⟨w.heap.size,3,none⟩ (.string ⟨#[]⟩)).setCell ⟨w.heap.size,4,none⟩ .nilIface).cell? ⟨w.heap.size,1,none⟩=some (.int .i64 0):=hR.cell 1;have y2:(((((w1.setCell ⟨w.heap.size,0,none⟩ (.int .i64 0)).setCell ⟨w.heap.size,1,none⟩ (.int .i64 0)).setCell ⟨w.heap.size,2,none⟩ (.string ⟨#[]⟩)).setCell ⟨w.heap.size,3,none⟩ (.string ⟨#[]⟩)).setCell ⟨w.heap.size,4,none⟩ .nilIface).cell? ⟨w.heap.size,2,none⟩=some (.string ⟨#[]⟩):=hR.cell 2;have y3:(((((w1.setCell ⟨w.heap.size,0,none⟩ (.int .i64 0)).setCell ⟨w.heap.size,1,none⟩ (.int .i64 0)).setCell ⟨w.heap.size,2,none⟩ (.string ⟨#[]⟩)).setCell ⟨w.heap.size,3,none⟩ (.string ⟨#[]⟩)).setCell ⟨w.heap.size,4,none⟩ .nilIface).cell? ⟨w.heap.size,3,none⟩=some (.string ⟨#[]⟩):=hR.cell 3;have y4:(((((w1.setCell ⟨w.heap.size,0,none⟩ (.int .i64 0)).setCell ⟨w.heap.size,1,none⟩ (.int .i64 0)).setCell ⟨w.heap.size,2,none⟩ (.string ⟨#[]⟩)).setCell ⟨w.heap.size,3,none⟩ (.string ⟨#[]⟩)).setCell ⟨w.heap.size,4,none⟩ .nilIface).cell? ⟨w.heap.size,4,none⟩=some .nilIface:=hR.cell 4;have HR:=hid hR;clear hR hz1;go_wp2;refine bodyPost_ret (v:=.tuple #[.agg #[.int .i64 0,.int .i64 0,.string ⟨#[]⟩,.string ⟨#[]⟩,.nilIface],.bool false]) (by simp[results,Tryz.results145,go_sem,y0,y1,y2,y3,y4];try rfl) rfl ?_;exact⟨⟨_,rfl,⟨_,_,_,_,_,rfl,.inl rfl⟩,fun x h=>by cases h⟩,HR.out.ps,ha,HR.out.fr⟩
theorem Mu{toks:List Tok}(hw:Wf toks)(pb tb cap k a n:Nat)(hn:n=a+1)(w:World)(ha:a<toks.length)(hP:PS toks pb tb cap a 0 w.heap)
 (h0:cC toks a [108,101,116]=true) (h1:bR (tx toks (a+1))=false) :
 Calls Tryz.prog 145 #[.pointer (some ⟨pb,0,none⟩),.int .i64 k] w (kG toks pb tb cap (a+1) none w):=by
 have HT0:Hid (bB (tx toks a) ⟨#[108,101,116]⟩=true):=hid ((aR toks a [108,101,116]).symm.trans h0);have HX1:=hid (hw.next_isT ha h0);have HB1:Hid (a+1<401):=hid (by have:=hw.le;have:=HX1.out;omega);have HS1:Hid ((tx toks (a+1)).size<=maxLen):=hid (by have:=hw.size (a+1);unfold maxLen;omega);have HN1:=hid h1;have hz:=RS.start hP #[.int .i64 0,.int .i64 0,.string ⟨#[]⟩,.string ⟨#[]⟩,.nilIface];have HZ0:=hid hz;have HL:=hid hw.le;have HW:=hid hw;have HN0:=hid hn;have ha4:Hid (toks.length<=401):=hid hw.le;clear hz hP hw hn;clear h0 h1;go_enter Tryz.func145,Tryz.ntmps145;go_wp2_with fail
 refine (aT toks pb tb cap a 0 _ _ HZ0.out.ps ha HL.out HT0.out).mono ?_;rintro e w1⟨rfl,hP1,hF1⟩;have hz1:=HZ0.out.call hF1 hP1;have c1:w1.cell? ⟨pb,1,none⟩=some (.int .i64 n):=by rw[HN0.out];exact hz1.ps.c1
 have HC1:Hid (LS toks pb tb cap w w1.heap.size (w1.alloc (.cells #[.int .i64 k,.int .i64 n,.string ⟨#[]⟩,.string ⟨#[]⟩,.nilIface] 137)) (a+1) #[.int .i64 0,.int .i64 0,.string ⟨#[]⟩,.string ⟨#[]⟩,.nilIface] #[.int .i64 k,.int .i64 n,.string ⟨#[]⟩,.string ⟨#[]⟩,.nilIface]):=hid (hz1.item _);clear hP1 hF1 hz1;go_wp2_with fail
 refine (Dx toks pb tb cap (a+1) 0 _ HC1.out.ps HX1.out HS1.out HN1.out).mono ?_;rintro e w2⟨rfl,hP1,hF1⟩;have hc1:=HC1.out.call hF1 hP1;have q2:w2.cell? ⟨w1.heap.size,2,none⟩=some (.string ⟨#[]⟩):=hc1.cell 2;have g2:=hc1.f 2;have hc2:=hc1.set 2 (.string ⟨#[]⟩);clear hP1 hF1 hc1;have r0:(w2.setCell ⟨w1.heap.size,2,none⟩ (.string ⟨#[]⟩)).cell? ⟨w.heap.size,0,none⟩=some (.int .i64 0):=hc2.toRS.cell 0;have rf0:=hc2.toRS.f 0;have r1:(w2.setCell ⟨w1.heap.size,2,none⟩ (.string ⟨#[]⟩)).cell? ⟨w.heap.size,1,none⟩=some (.int .i64 0):=hc2.toRS.cell 1;have rf1:=hc2.toRS.f 1;have r2:(w2.setCell ⟨w1.heap.size,2,none⟩ (.string ⟨#[]⟩)).cell? ⟨w.heap.size,2,none⟩=some (.string ⟨#[]⟩):=hc2.toRS.cell 2;have rf2:=hc2.toRS.f 2;have r3:(w2.setCell ⟨w1.heap.size,2,none⟩ (.string ⟨#[]⟩)).cell? ⟨w.heap.size,3,none⟩=some (.string ⟨#[]⟩):=hc2.toRS.cell 3;have rf3:=hc2.toRS.f 3;have r4:(w2.setCell ⟨w1.heap.size,2,none⟩ (.string ⟨#[]⟩)).cell? ⟨w.heap.size,4,none⟩=some .nilIface:=hc2.toRS.cell 4;have rf4:=hc2.toRS.f 4;have hR:RS toks pb tb cap w ((((((w2.setCell ⟨w1.heap.size,2,none⟩ (.string ⟨#[]⟩)).setCell ⟨w.heap.size,0,none⟩ (.int .i64 0)).setCell ⟨w.heap.size,1,none⟩ (.int .i64 0)).setCell ⟨w.heap.size,2,none⟩ (.string ⟨#[]⟩)).setCell ⟨w.heap.size,3,none⟩ (.string ⟨#[]⟩)).setCell ⟨w.heap.size,4,none⟩ .nilIface) (a+1) #[.int .i64 0,.int .i64 0,.string ⟨#[]⟩,.string ⟨#[]⟩,.nilIface]:=hc2.toRS.put (.int .i64 0) (.int .i64 0) (.string ⟨#[]⟩) (.string ⟨#[]⟩) .nilIface;have y0:((((((w2.setCell ⟨w1.heap.size,2,none⟩ (.string ⟨#[]⟩)).setCell ⟨w.heap.size,0,none⟩ (.int .i64 0)).setCell ⟨w.heap.size,1,none⟩ (.int .i64 0)).setCell ⟨w.heap.size,2,none⟩ (.string ⟨#[]⟩)).setCell ⟨w.heap.size,3,none⟩ (.string ⟨#[]⟩)).setCell ⟨w.heap.size,4,none⟩ .nilIface).cell? ⟨w.heap.size,0,none⟩=some (.int .i64 0):=hR.cell 0;have y1:((((((w2.setCell ⟨w1.heap.size,2,none⟩ (.string ⟨#[]⟩)).setCell ⟨w.heap.size,0,none⟩ (.int .i64 0)).setCell ⟨w.heap.size,1,none⟩ (.int .i64 0)).setCell ⟨w.heap.size,2,none⟩ (.string ⟨#[]⟩)).setCell ⟨w.heap.size,3,none⟩ (.string ⟨#[]⟩)).setCell ⟨w.heap.size,4,none⟩ .nilIface).cell? ⟨w.heap.size,1,none⟩=some (.int .i64 0):=hR.cell 1;have y2:((((((w2.setCell ⟨w1.heap.size,2,none⟩ (.string ⟨#[]⟩)).setCell ⟨w.heap.size,0,none⟩ (.int .i64 0)).setCell ⟨w.heap.size,1,none⟩ (.int .i64 0)).setCell ⟨w.heap.size,2,none⟩ (.string ⟨#[]⟩)).setCell ⟨w.heap.size,3,none⟩ (.string ⟨#[]⟩)).setCell ⟨w.heap.size,4,none⟩ .nilIface).cell? ⟨w.heap.size,2,none⟩=some (.string ⟨#[]⟩):=hR.cell 2;have y3:((((((w2.setCell ⟨w1.heap.size,2,none⟩ (.string ⟨#[]⟩)).setCell ⟨w.heap.size,0,none⟩ (.int .i64 0)).setCell ⟨w.heap.size,1,none⟩ (.int .i64 0)).setCell ⟨w.heap.size,2,none⟩ (.string ⟨#[]⟩)).setCell ⟨w.heap.size,3,none⟩ (.string ⟨#[]⟩)).setCell ⟨w.heap.size,4,none⟩ .nilIface).cell? ⟨w.heap.size,3,none⟩=some (.string ⟨#[]⟩):=hR.cell 3;have y4:((((((w2.setCell ⟨w1.heap.size,2,none⟩ (.string ⟨#[]⟩)).setCell ⟨w.heap.size,0,none⟩ (.int .i64 0)).setCell ⟨w.heap.size,1,none⟩ (.int .i64 0)).setCell ⟨w.heap.size,2,none⟩ (.string ⟨#[]⟩)).setCell ⟨w.heap.size,3,none⟩ (.string ⟨#[]⟩)).setCell ⟨w.heap.size,4,none⟩ .nilIface).cell? ⟨w.heap.size,4,none⟩=some .nilIface:=hR.cell 4;have HR:=hid hR;clear hR hc2;go_wp2;refine bodyPost_ret (v:=.tuple #[.agg #[.int .i64 0,.int .i64 0,.string ⟨#[]⟩,.string ⟨#[]⟩,.nilIface],.bool false]) (by simp[results,Tryz.results145,go_sem,y0,y1,y2,y3,y4];try rfl) rfl ?_;exact⟨⟨_,rfl,⟨_,_,_,_,_,rfl,.inl rfl⟩,fun x h=>by cases h⟩,HR.out.ps,HX1.out,HR.out.fr⟩
theorem Mv{toks:List Tok}(hw:Wf toks)(pb tb cap k a n:Nat)(hn:n=a+1)(w:World)(ha:a<toks.length)(hP:PS toks pb tb cap a 0 w.heap)
 (h0:cC toks a [108,101,116]=true) (h1:bR (tx toks (a+1))=true) (h2:cC toks (a+2) [58]=false) :
 Calls Tryz.prog 145 #[.pointer (some ⟨pb,0,none⟩),.int .i64 k] w (kG toks pb tb cap (a+2) none w):=by
 have HT0:Hid (bB (tx toks a) ⟨#[108,101,116]⟩=true):=hid ((aR toks a [108,101,116]).symm.trans h0);have HX1:=hid (hw.next_isT ha h0);have HB1:Hid (a+1<401):=hid (by have:=hw.le;have:=HX1.out;omega);have HS1:Hid ((tx toks (a+1)).size<=maxLen):=hid (by have:=hw.size (a+1);unfold maxLen;omega);have HN1:=hid h1;have HX2:Hid (a+2<toks.length):=hid (hw.next HX1.out (jL h1));have HT2:Hid (bB (tx toks (a+2)) ⟨#[58]⟩=false):=hid ((aR toks (a+2) [58]).symm.trans h2);have hz:=RS.start hP #[.int .i64 0,.int .i64 0,.string ⟨#[]⟩,.string ⟨#[]⟩,.nilIface];have HZ0:=hid hz;have HL:=hid hw.le;have HW:=hid hw;have HN0:=hid hn;have ha4:Hid (toks.length<=401):=hid hw.le;clear hz hP hw hn;clear h0 h1 h2;go_enter Tryz.func145,Tryz.ntmps145;go_wp2_with fail
 refine (aT toks pb tb cap a 0 _ _ HZ0.out.ps ha HL.out HT0.out).mono ?_;rintro e w1⟨rfl,hP1,hF1⟩;have hz1:=HZ0.out.call hF1 hP1;have c1:w1.cell? ⟨pb,1,none⟩=some (.int .i64 n):=by rw[HN0.out];exact hz1.ps.c1
 have HC1:Hid (LS toks pb tb cap w w1.heap.size (w1.alloc (.cells #[.int .i64 k,.int .i64 n,.string ⟨#[]⟩,.string ⟨#[]⟩,.nilIface] 137)) (a+1) #[.int .i64 0,.int .i64 0,.string ⟨#[]⟩,.string ⟨#[]⟩,.nilIface] #[.int .i64 k,.int .i64 n,.string ⟨#[]⟩,.string ⟨#[]⟩,.nilIface]):=hid (hz1.item _);clear hP1 hF1 hz1;go_wp2_with fail
 refine (iG toks pb tb cap (a+1) 0 _ HC1.out.ps HX1.out HB1.out HS1.out HN1.out).mono ?_;rintro e w2⟨rfl,hP1,hF1⟩;have hc1:=HC1.out.call hF1 hP1;have q2:w2.cell? ⟨w1.heap.size,2,none⟩=some (.string ⟨#[]⟩):=hc1.cell 2;have g2:=hc1.f 2;have hc2:LS toks pb tb cap w w1.heap.size (w2.setCell ⟨w1.heap.size,2,none⟩ (.string (tx toks (a+1)))) (a+2) #[.int .i64 0,.int .i64 0,.string ⟨#[]⟩,.string ⟨#[]⟩,.nilIface] #[.int .i64 k,.int .i64 n,.string (tx toks (a+1)),.string ⟨#[]⟩,.nilIface]:=hc1.set 2 _;have HC2:=hid hc2;clear hP1 hF1 hc1 hc2;go_wp2_with fail
 refine (dF toks pb tb cap (a+2) 0 _ _ HC2.out.ps HX2.out HT2.out).mono ?_;rintro e w3⟨rfl,hP1,hF1⟩;have hc2:=HC2.out.call hF1 hP1;clear hP1 hF1;have r0:w3.cell? ⟨w.heap.size,0,none⟩=some (.int .i64 0):=hc2.toRS.cell 0;have rf0:=hc2.toRS.f 0;have r1:w3.cell? ⟨w.heap.size,1,none⟩=some (.int .i64 0):=hc2.toRS.cell 1;have rf1:=hc2.toRS.f 1;have r2:w3.cell? ⟨w.heap.size,2,none⟩=some (.string ⟨#[]⟩):=hc2.toRS.cell 2;have rf2:=hc2.toRS.f 2;have r3:w3.cell? ⟨w.heap.size,3,none⟩=some (.string ⟨#[]⟩):=hc2.toRS.cell 3;have rf3:=hc2.toRS.f 3;have r4:w3.cell? ⟨w.heap.size,4,none⟩=some .nilIface:=hc2.toRS.cell 4;have rf4:=hc2.toRS.f 4;have hR:RS toks pb tb cap w (((((w3.setCell ⟨w.heap.size,0,none⟩ (.int .i64 0)).setCell ⟨w.heap.size,1,none⟩ (.int .i64 0)).setCell ⟨w.heap.size,2,none⟩ (.string ⟨#[]⟩)).setCell ⟨w.heap.size,3,none⟩ (.string ⟨#[]⟩)).setCell ⟨w.heap.size,4,none⟩ .nilIface) (a+2) #[.int .i64 0,.int .i64 0,.string ⟨#[]⟩,.string ⟨#[]⟩,.nilIface]:=hc2.toRS.put (.int .i64 0) (.int .i64 0) (.string ⟨#[]⟩) (.string ⟨#[]⟩) .nilIface;have y0:(((((w3.setCell ⟨w.heap.size,0,none⟩ (.int .i64 0)).setCell ⟨w.heap.size,1,none⟩ (.int .i64 0)).setCell ⟨w.heap.size,2,none⟩ (.string ⟨#[]⟩)).setCell ⟨w.heap.size,3,none⟩ (.string ⟨#[]⟩)).setCell ⟨w.heap.size,4,none⟩ .nilIface).cell? ⟨w.heap.size,0,none⟩=some (.int .i64 0):=hR.cell 0;have y1:(((((w3.setCell ⟨w.heap.size,0,none⟩ (.int .i64 0)).setCell ⟨w.heap.size,1,none⟩ (.int .i64 0)).setCell ⟨w.heap.size,2,none⟩ (.string ⟨#[]⟩)).setCell ⟨w.heap.size,3,none⟩ (.string ⟨#[]⟩)).setCell ⟨w.heap.size,4,none⟩ .nilIface).cell? ⟨w.heap.size,1,none⟩=some (.int .i64 0):=hR.cell 1;have y2:(((((w3.setCell ⟨w.heap.size,0,none⟩ (.int .i64 0)).setCell ⟨w.heap.size,1,none⟩ (.int .i64 0)).setCell ⟨w.heap.size,2,none⟩ (.string ⟨#[]⟩)).setCell ⟨w.heap.size,3,none⟩ (.string ⟨#[]⟩)).setCell ⟨w.heap.size,4,none⟩ .nilIface).cell? ⟨w.heap.size,2,none⟩=some (.string ⟨#[]⟩):=hR.cell 2;have y3:(((((w3.setCell ⟨w.heap.size,0,none⟩ (.int .i64 0)).setCell ⟨w.heap.size,1,none⟩ (.int .i64 0)).setCell ⟨w.heap.size,2,none⟩ (.string ⟨#[]⟩)).setCell ⟨w.heap.size,3,none⟩ (.string ⟨#[]⟩)).setCell ⟨w.heap.size,4,none⟩ .nilIface).cell? ⟨w.heap.size,3,none⟩=some (.string ⟨#[]⟩):=hR.cell 3;have y4:(((((w3.setCell ⟨w.heap.size,0,none⟩ (.int .i64 0)).setCell ⟨w.heap.size,1,none⟩ (.int .i64 0)).setCell ⟨w.heap.size,2,none⟩ (.string ⟨#[]⟩)).setCell ⟨w.heap.size,3,none⟩ (.string ⟨#[]⟩)).setCell ⟨w.heap.size,4,none⟩ .nilIface).cell? ⟨w.heap.size,4,none⟩=some .nilIface:=hR.cell 4;have HR:=hid hR;clear hR hc2;go_wp2;refine bodyPost_ret (v:=.tuple #[.agg #[.int .i64 0,.int .i64 0,.string ⟨#[]⟩,.string ⟨#[]⟩,.nilIface],.bool false]) (by simp[results,Tryz.results145,go_sem,y0,y1,y2,y3,y4];try rfl) rfl ?_;exact⟨⟨_,rfl,⟨_,_,_,_,_,rfl,.inl rfl⟩,fun x h=>by cases h⟩,HR.out.ps,HX2.out,HR.out.fr⟩
theorem Mw{toks:List Tok}(hw:Wf toks)(pb tb cap k a n:Nat)(hn:n=a+1)(w:World)(ha:a<toks.length)(hP:PS toks pb tb cap a 0 w.heap)
 (h0:cC toks a [108,101,116]=true) (h1:bR (tx toks (a+1))=true) (h2:cC toks (a+2) [58]=true) (h3:mM toks (a+3)=false) :
 Calls Tryz.prog 145 #[.pointer (some ⟨pb,0,none⟩),.int .i64 k] w (kG toks pb tb cap (a+3) none w):=by
 have HT0:Hid (bB (tx toks a) ⟨#[108,101,116]⟩=true):=hid ((aR toks a [108,101,116]).symm.trans h0);have HX1:=hid (hw.next_isT ha h0);have HB1:Hid (a+1<401):=hid (by have:=hw.le;have:=HX1.out;omega);have HS1:Hid ((tx toks (a+1)).size<=maxLen):=hid (by have:=hw.size (a+1);unfold maxLen;omega);have HN1:=hid h1;have HX2:Hid (a+2<toks.length):=hid (hw.next HX1.out (jL h1));have HT2:Hid (bB (tx toks (a+2)) ⟨#[58]⟩=true):=hid ((aR toks (a+2) [58]).symm.trans h2);have HX3:Hid (a+3<toks.length):=hid (hw.next_isT HX2.out h2);have HT3:=hid h3;have hz:=RS.start hP #[.int .i64 0,.int .i64 0,.string ⟨#[]⟩,.string ⟨#[]⟩,.nilIface];have HZ0:=hid hz;have HL:=hid hw.le;have HW:=hid hw;have HN0:=hid hn;have ha4:Hid (toks.length<=401):=hid hw.le;clear hz hP hw hn;clear h0 h1 h2 h3;go_enter Tryz.func145,Tryz.ntmps145;go_wp2_with fail
 refine (aT toks pb tb cap a 0 _ _ HZ0.out.ps ha HL.out HT0.out).mono ?_;rintro e w1⟨rfl,hP1,hF1⟩;have hz1:=HZ0.out.call hF1 hP1;have c1:w1.cell? ⟨pb,1,none⟩=some (.int .i64 n):=by rw[HN0.out];exact hz1.ps.c1
 have HC1:Hid (LS toks pb tb cap w w1.heap.size (w1.alloc (.cells #[.int .i64 k,.int .i64 n,.string ⟨#[]⟩,.string ⟨#[]⟩,.nilIface] 137)) (a+1) #[.int .i64 0,.int .i64 0,.string ⟨#[]⟩,.string ⟨#[]⟩,.nilIface] #[.int .i64 k,.int .i64 n,.string ⟨#[]⟩,.string ⟨#[]⟩,.nilIface]):=hid (hz1.item _);clear hP1 hF1 hz1;go_wp2_with fail
 refine (iG toks pb tb cap (a+1) 0 _ HC1.out.ps HX1.out HB1.out HS1.out HN1.out).mono ?_;rintro e w2⟨rfl,hP1,hF1⟩;have hc1:=HC1.out.call hF1 hP1;have q2:w2.cell? ⟨w1.heap.size,2,none⟩=some (.string ⟨#[]⟩):=hc1.cell 2;have g2:=hc1.f 2;have hc2:LS toks pb tb cap w w1.heap.size (w2.setCell ⟨w1.heap.size,2,none⟩ (.string (tx toks (a+1)))) (a+2) #[.int .i64 0,.int .i64 0,.string ⟨#[]⟩,.string ⟨#[]⟩,.nilIface] #[.int .i64 k,.int .i64 n,.string (tx toks (a+1)),.string ⟨#[]⟩,.nilIface]:=hc1.set 2 _;have HC2:=hid hc2;clear hP1 hF1 hc1 hc2;go_wp2_with fail
 refine (aT toks pb tb cap (a+2) 0 _ _ HC2.out.ps HX2.out HL.out HT2.out).mono ?_;rintro e w3⟨rfl,hP1,hF1⟩;have HC3:=hid (HC2.out.call hF1 hP1);clear hP1 hF1;go_wp2_with fail
 refine (AB toks pb tb cap (a+3) 0 _ HC3.out.ps HX3.out HT3.out).mono ?_;rintro e w4⟨rfl,hP1,hF1⟩;have hc1:=HC3.out.call hF1 hP1;have q3:w4.cell? ⟨w1.heap.size,3,none⟩=some (.string ⟨#[]⟩):=hc1.cell 3;have g3:=hc1.f 3;have hc2:=hc1.set 3 (.string (tx toks (a+3)));clear hP1 hF1 hc1;have r0:(w4.setCell ⟨w1.heap.size,3,none⟩ (.string (tx toks (a+3)))).cell? ⟨w.heap.size,0,none⟩=some (.int .i64 0):=hc2.toRS.cell 0;have rf0:=hc2.toRS.f 0;have r1:(w4.setCell ⟨w1.heap.size,3,none⟩ (.string (tx toks (a+3)))).cell? ⟨w.heap.size,1,none⟩=some (.int .i64 0):=hc2.toRS.cell 1;have rf1:=hc2.toRS.f 1;have r2:(w4.setCell ⟨w1.heap.size,3,none⟩ (.string (tx toks (a+3)))).cell? ⟨w.heap.size,2,none⟩=some (.string ⟨#[]⟩):=hc2.toRS.cell 2;have rf2:=hc2.toRS.f 2;have r3:(w4.setCell ⟨w1.heap.size,3,none⟩ (.string (tx toks (a+3)))).cell? ⟨w.heap.size,3,none⟩=some (.string ⟨#[]⟩):=hc2.toRS.cell 3;have rf3:=hc2.toRS.f 3;have r4:(w4.setCell ⟨w1.heap.size,3,none⟩ (.string (tx toks (a+3)))).cell? ⟨w.heap.size,4,none⟩=some .nilIface:=hc2.toRS.cell 4;have rf4:=hc2.toRS.f 4;have hR:RS toks pb tb cap w ((((((w4.setCell ⟨w1.heap.size,3,none⟩ (.string (tx toks (a+3)))).setCell ⟨w.heap.size,0,none⟩ (.int .i64 0)).setCell ⟨w.heap.size,1,none⟩ (.int .i64 0)).setCell ⟨w.heap.size,2,none⟩ (.string ⟨#[]⟩)).setCell ⟨w.heap.size,3,none⟩ (.string ⟨#[]⟩)).setCell ⟨w.heap.size,4,none⟩ .nilIface) (a+3) #[.int .i64 0,.int .i64 0,.string ⟨#[]⟩,.string ⟨#[]⟩,.nilIface]:=hc2.toRS.put (.int .i64 0) (.int .i64 0) (.string ⟨#[]⟩) (.string ⟨#[]⟩) .nilIface;have y0:((((((w4.setCell ⟨w1.heap.size,3,none⟩ (.string (tx toks (a+3)))).setCell ⟨w.heap.size,0,none⟩ (.int .i64 0)).setCell ⟨w.heap.size,1,none⟩ (.int .i64 0)).setCell ⟨w.heap.size,2,none⟩ (.string ⟨#[]⟩)).setCell ⟨w.heap.size,3,none⟩ (.string ⟨#[]⟩)).setCell ⟨w.heap.size,4,none⟩ .nilIface).cell? ⟨w.heap.size,0,none⟩=some (.int .i64 0):=hR.cell 0;have y1:((((((w4.setCell ⟨w1.heap.size,3,none⟩ (.string (tx toks (a+3)))).setCell ⟨w.heap.size,0,none⟩ (.int .i64 0)).setCell ⟨w.heap.size,1,none⟩ (.int .i64 0)).setCell ⟨w.heap.size,2,none⟩ (.string ⟨#[]⟩)).setCell ⟨w.heap.size,3,none⟩ (.string ⟨#[]⟩)).setCell ⟨w.heap.size,4,none⟩ .nilIface).cell? ⟨w.heap.size,1,none⟩=some (.int .i64 0):=hR.cell 1;have y2:((((((w4.setCell ⟨w1.heap.size,3,none⟩ (.string (tx toks (a+3)))).setCell ⟨w.heap.size,0,none⟩ (.int .i64 0)).setCell ⟨w.heap.size,1,none⟩ (.int .i64 0)).setCell ⟨w.heap.size,2,none⟩ (.string ⟨#[]⟩)).setCell ⟨w.heap.size,3,none⟩ (.string ⟨#[]⟩)).setCell ⟨w.heap.size,4,none⟩ .nilIface).cell? ⟨w.heap.size,2,none⟩=some (.string ⟨#[]⟩):=hR.cell 2;have y3:((((((w4.setCell ⟨w1.heap.size,3,none⟩ (.string (tx toks (a+3)))).setCell ⟨w.heap.size,0,none⟩ (.int .i64 0)).setCell ⟨w.heap.size,1,none⟩ (.int .i64 0)).setCell ⟨w.heap.size,2,none⟩ (.string ⟨#[]⟩)).setCell ⟨w.heap.size,3,none⟩ (.string ⟨#[]⟩)).setCell ⟨w.heap.size,4,none⟩ .nilIface).cell? ⟨w.heap.size,3,none⟩=some (.string ⟨#[]⟩):=hR.cell 3;have y4:((((((w4.setCell ⟨w1.heap.size,3,none⟩ (.string (tx toks (a+3)))).setCell ⟨w.heap.size,0,none⟩ (.int .i64 0)).setCell ⟨w.heap.size,1,none⟩ (.int .i64 0)).setCell ⟨w.heap.size,2,none⟩ (.string ⟨#[]⟩)).setCell ⟨w.heap.size,3,none⟩ (.string ⟨#[]⟩)).setCell ⟨w.heap.size,4,none⟩ .nilIface).cell? ⟨w.heap.size,4,none⟩=some .nilIface:=hR.cell 4;have HR:=hid hR;clear hR hc2;go_wp2;refine bodyPost_ret (v:=.tuple #[.agg #[.int .i64 0,.int .i64 0,.string ⟨#[]⟩,.string ⟨#[]⟩,.nilIface],.bool false]) (by simp[results,Tryz.results145,go_sem,y0,y1,y2,y3,y4];try rfl) rfl ?_;exact⟨⟨_,rfl,⟨_,_,_,_,_,rfl,.inl rfl⟩,fun x h=>by cases h⟩,HR.out.ps,HX3.out,HR.out.fr⟩
theorem Mx{toks:List Tok}(hw:Wf toks)(pb tb cap k a n:Nat)(hn:n=a+1)(w:World)(ha:a<toks.length)(hP:PS toks pb tb cap a 0 w.heap)
 (h0:cC toks a [108,101,116]=true) (h1:bR (tx toks (a+1))=true) (h2:cC toks (a+2) [58]=true) (h3:mM toks (a+3)=true) (h4:cC toks (a+4) [61]=false) :
 Calls Tryz.prog 145 #[.pointer (some ⟨pb,0,none⟩),.int .i64 k] w (kG toks pb tb cap (a+4) none w):=by
 have HT0:Hid (bB (tx toks a) ⟨#[108,101,116]⟩=true):=hid ((aR toks a [108,101,116]).symm.trans h0);have HX1:=hid (hw.next_isT ha h0);have HB1:Hid (a+1<401):=hid (by have:=hw.le;have:=HX1.out;omega);have HS1:Hid ((tx toks (a+1)).size<=maxLen):=hid (by have:=hw.size (a+1);unfold maxLen;omega);have HN1:=hid h1;have HX2:Hid (a+2<toks.length):=hid (hw.next HX1.out (jL h1));have HT2:Hid (bB (tx toks (a+2)) ⟨#[58]⟩=true):=hid ((aR toks (a+2) [58]).symm.trans h2);have HX3:Hid (a+3<toks.length):=hid (hw.next_isT HX2.out h2);have HT3:=hid h3;have HX4:Hid (a+4<toks.length):=hid (hw.next HX3.out (sP h3));have HT4:Hid (bB (tx toks (a+4)) ⟨#[61]⟩=false):=hid ((aR toks (a+4) [61]).symm.trans h4);have hz:=RS.start hP #[.int .i64 0,.int .i64 0,.string ⟨#[]⟩,.string ⟨#[]⟩,.nilIface];have HZ0:=hid hz;have HL:=hid hw.le;have HW:=hid hw;have HN0:=hid hn;have ha4:Hid (toks.length<=401):=hid hw.le;clear hz hP hw hn;clear h0 h1 h2 h3 h4;go_enter Tryz.func145,Tryz.ntmps145;go_wp2_with fail
 refine (aT toks pb tb cap a 0 _ _ HZ0.out.ps ha HL.out HT0.out).mono ?_;rintro e w1⟨rfl,hP1,hF1⟩;have hz1:=HZ0.out.call hF1 hP1;have c1:w1.cell? ⟨pb,1,none⟩=some (.int .i64 n):=by rw[HN0.out];exact hz1.ps.c1
 have HC1:Hid (LS toks pb tb cap w w1.heap.size (w1.alloc (.cells #[.int .i64 k,.int .i64 n,.string ⟨#[]⟩,.string ⟨#[]⟩,.nilIface] 137)) (a+1) #[.int .i64 0,.int .i64 0,.string ⟨#[]⟩,.string ⟨#[]⟩,.nilIface] #[.int .i64 k,.int .i64 n,.string ⟨#[]⟩,.string ⟨#[]⟩,.nilIface]):=hid (hz1.item _);clear hP1 hF1 hz1;go_wp2_with fail
 refine (iG toks pb tb cap (a+1) 0 _ HC1.out.ps HX1.out HB1.out HS1.out HN1.out).mono ?_;rintro e w2⟨rfl,hP1,hF1⟩;have hc1:=HC1.out.call hF1 hP1;have q2:w2.cell? ⟨w1.heap.size,2,none⟩=some (.string ⟨#[]⟩):=hc1.cell 2;have g2:=hc1.f 2;have hc2:LS toks pb tb cap w w1.heap.size (w2.setCell ⟨w1.heap.size,2,none⟩ (.string (tx toks (a+1)))) (a+2) #[.int .i64 0,.int .i64 0,.string ⟨#[]⟩,.string ⟨#[]⟩,.nilIface] #[.int .i64 k,.int .i64 n,.string (tx toks (a+1)),.string ⟨#[]⟩,.nilIface]:=hc1.set 2 _;have HC2:=hid hc2;clear hP1 hF1 hc1 hc2;go_wp2_with fail
 refine (aT toks pb tb cap (a+2) 0 _ _ HC2.out.ps HX2.out HL.out HT2.out).mono ?_;rintro e w3⟨rfl,hP1,hF1⟩;have HC3:=hid (HC2.out.call hF1 hP1);clear hP1 hF1;go_wp2_with fail
 refine (jA toks pb tb cap (a+3) 0 _ HC3.out.ps HX3.out HL.out HT3.out).mono ?_;rintro e w4⟨rfl,hP1,hF1⟩;have hc1:=HC3.out.call hF1 hP1;have q3:w4.cell? ⟨w1.heap.size,3,none⟩=some (.string ⟨#[]⟩):=hc1.cell 3;have g3:=hc1.f 3;have hc2:LS toks pb tb cap w w1.heap.size (w4.setCell ⟨w1.heap.size,3,none⟩ (.string (tx toks (a+3)))) (a+4) #[.int .i64 0,.int .i64 0,.string ⟨#[]⟩,.string ⟨#[]⟩,.nilIface] #[.int .i64 k,.int .i64 n,.string (tx toks (a+1)),.string (tx toks (a+3)),.nilIface]:=hc1.set 3 _;have HC4:=hid hc2;clear hP1 hF1 hc1 hc2;go_wp2_with fail
 refine (dF toks pb tb cap (a+4) 0 _ _ HC4.out.ps HX4.out HT4.out).mono ?_;rintro e w5⟨rfl,hP1,hF1⟩;have hc2:=HC4.out.call hF1 hP1;clear hP1 hF1;have r0:w5.cell? ⟨w.heap.size,0,none⟩=some (.int .i64 0):=hc2.toRS.cell 0;have rf0:=hc2.toRS.f 0;have r1:w5.cell? ⟨w.heap.size,1,none⟩=some (.int .i64 0):=hc2.toRS.cell 1;have rf1:=hc2.toRS.f 1;have r2:w5.cell? ⟨w.heap.size,2,none⟩=some (.string ⟨#[]⟩):=hc2.toRS.cell 2;have rf2:=hc2.toRS.f 2;have r3:w5.cell? ⟨w.heap.size,3,none⟩=some (.string ⟨#[]⟩):=hc2.toRS.cell 3;have rf3:=hc2.toRS.f 3;have r4:w5.cell? ⟨w.heap.size,4,none⟩=some .nilIface:=hc2.toRS.cell 4;have rf4:=hc2.toRS.f 4;have hR:RS toks pb tb cap w (((((w5.setCell ⟨w.heap.size,0,none⟩ (.int .i64 0)).setCell ⟨w.heap.size,1,none⟩ (.int .i64 0)).setCell ⟨w.heap.size,2,none⟩ (.string ⟨#[]⟩)).setCell ⟨w.heap.size,3,none⟩ (.string ⟨#[]⟩)).setCell ⟨w.heap.size,4,none⟩ .nilIface) (a+4) #[.int .i64 0,.int .i64 0,.string ⟨#[]⟩,.string ⟨#[]⟩,.nilIface]:=hc2.toRS.put (.int .i64 0) (.int .i64 0) (.string ⟨#[]⟩) (.string ⟨#[]⟩) .nilIface;have y0:(((((w5.setCell ⟨w.heap.size,0,none⟩ (.int .i64 0)).setCell ⟨w.heap.size,1,none⟩ (.int .i64 0)).setCell ⟨w.heap.size,2,none⟩ (.string ⟨#[]⟩)).setCell ⟨w.heap.size,3,none⟩ (.string ⟨#[]⟩)).setCell ⟨w.heap.size,4,none⟩ .nilIface).cell? ⟨w.heap.size,0,none⟩=some (.int .i64 0):=hR.cell 0;have y1:(((((w5.setCell ⟨w.heap.size,0,none⟩ (.int .i64 0)).setCell ⟨w.heap.size,1,none⟩ (.int .i64 0)).setCell ⟨w.heap.size,2,none⟩ (.string ⟨#[]⟩)).setCell ⟨w.heap.size,3,none⟩ (.string ⟨#[]⟩)).setCell ⟨w.heap.size,4,none⟩ .nilIface).cell? ⟨w.heap.size,1,none⟩=some (.int .i64 0):=hR.cell 1;have y2:(((((w5.setCell ⟨w.heap.size,0,none⟩ (.int .i64 0)).setCell ⟨w.heap.size,1,none⟩ (.int .i64 0)).setCell ⟨w.heap.size,2,none⟩ (.string ⟨#[]⟩)).setCell ⟨w.heap.size,3,none⟩ (.string ⟨#[]⟩)).setCell ⟨w.heap.size,4,none⟩ .nilIface).cell? ⟨w.heap.size,2,none⟩=some (.string ⟨#[]⟩):=hR.cell 2;have y3:(((((w5.setCell ⟨w.heap.size,0,none⟩ (.int .i64 0)).setCell ⟨w.heap.size,1,none⟩ (.int .i64 0)).setCell ⟨w.heap.size,2,none⟩ (.string ⟨#[]⟩)).setCell ⟨w.heap.size,3,none⟩ (.string ⟨#[]⟩)).setCell ⟨w.heap.size,4,none⟩ .nilIface).cell? ⟨w.heap.size,3,none⟩=some (.string ⟨#[]⟩):=hR.cell 3;have y4:(((((w5.setCell ⟨w.heap.size,0,none⟩ (.int .i64 0)).setCell ⟨w.heap.size,1,none⟩ (.int .i64 0)).setCell ⟨w.heap.size,2,none⟩ (.string ⟨#[]⟩)).setCell ⟨w.heap.size,3,none⟩ (.string ⟨#[]⟩)).setCell ⟨w.heap.size,4,none⟩ .nilIface).cell? ⟨w.heap.size,4,none⟩=some .nilIface:=hR.cell 4;have HR:=hid hR;clear hR hc2;go_wp2;refine bodyPost_ret (v:=.tuple #[.agg #[.int .i64 0,.int .i64 0,.string ⟨#[]⟩,.string ⟨#[]⟩,.nilIface],.bool false]) (by simp[results,Tryz.results145,go_sem,y0,y1,y2,y3,y4];try rfl) rfl ?_;exact⟨⟨_,rfl,⟨_,_,_,_,_,rfl,.inl rfl⟩,fun x h=>by cases h⟩,HR.out.ps,HX4.out,HR.out.fr⟩
theorem My{toks:List Tok}(hw:Wf toks)(pb tb cap k a n:Nat)(hn:n=a+1)(w:World)(ha:a<toks.length)(hP:PS toks pb tb cap a 0 w.heap)
 (h0:cC toks a [108,101,116]=true) (h1:bR (tx toks (a+1))=true) (h2:cC toks (a+2) [58]=true) (h3:mM toks (a+3)=true) (h4:cC toks (a+4) [61]=true) (b:Nat) (he:kV toks (a+5)=(b,none)) :
 Calls Tryz.prog 145 #[.pointer (some ⟨pb,0,none⟩),.int .i64 k] w (kG toks pb tb cap (b) none w):=by
 have HT0:Hid (bB (tx toks a) ⟨#[108,101,116]⟩=true):=hid ((aR toks a [108,101,116]).symm.trans h0);have HX1:=hid (hw.next_isT ha h0);have HB1:Hid (a+1<401):=hid (by have:=hw.le;have:=HX1.out;omega);have HS1:Hid ((tx toks (a+1)).size<=maxLen):=hid (by have:=hw.size (a+1);unfold maxLen;omega);have HN1:=hid h1;have HX2:Hid (a+2<toks.length):=hid (hw.next HX1.out (jL h1));have HT2:Hid (bB (tx toks (a+2)) ⟨#[58]⟩=true):=hid ((aR toks (a+2) [58]).symm.trans h2);have HX3:Hid (a+3<toks.length):=hid (hw.next_isT HX2.out h2);have HT3:=hid h3;have HX4:Hid (a+4<toks.length):=hid (hw.next HX3.out (sP h3));have HT4:Hid (bB (tx toks (a+4)) ⟨#[61]⟩=true):=hid ((aR toks (a+4) [61]).symm.trans h4);have HX5:Hid (a+5<toks.length):=hid (hw.next_isT HX4.out h4);have HE:=hid he;have hz:=RS.start hP #[.int .i64 0,.int .i64 0,.string ⟨#[]⟩,.string ⟨#[]⟩,.nilIface];have HZ0:=hid hz;have HL:=hid hw.le;have HW:=hid hw;have HN0:=hid hn;have ha4:Hid (toks.length<=401):=hid hw.le;clear hz hP hw hn;clear h0 h1 h2 h3 h4 he;go_enter Tryz.func145,Tryz.ntmps145;go_wp2_with fail
 refine (aT toks pb tb cap a 0 _ _ HZ0.out.ps ha HL.out HT0.out).mono ?_;rintro e w1⟨rfl,hP1,hF1⟩;have hz1:=HZ0.out.call hF1 hP1;have c1:w1.cell? ⟨pb,1,none⟩=some (.int .i64 n):=by rw[HN0.out];exact hz1.ps.c1
 have HC1:Hid (LS toks pb tb cap w w1.heap.size (w1.alloc (.cells #[.int .i64 k,.int .i64 n,.string ⟨#[]⟩,.string ⟨#[]⟩,.nilIface] 137)) (a+1) #[.int .i64 0,.int .i64 0,.string ⟨#[]⟩,.string ⟨#[]⟩,.nilIface] #[.int .i64 k,.int .i64 n,.string ⟨#[]⟩,.string ⟨#[]⟩,.nilIface]):=hid (hz1.item _);clear hP1 hF1 hz1;go_wp2_with fail
 refine (iG toks pb tb cap (a+1) 0 _ HC1.out.ps HX1.out HB1.out HS1.out HN1.out).mono ?_;rintro e w2⟨rfl,hP1,hF1⟩;have hc1:=HC1.out.call hF1 hP1;have q2:w2.cell? ⟨w1.heap.size,2,none⟩=some (.string ⟨#[]⟩):=hc1.cell 2;have g2:=hc1.f 2;have hc2:LS toks pb tb cap w w1.heap.size (w2.setCell ⟨w1.heap.size,2,none⟩ (.string (tx toks (a+1)))) (a+2) #[.int .i64 0,.int .i64 0,.string ⟨#[]⟩,.string ⟨#[]⟩,.nilIface] #[.int .i64 k,.int .i64 n,.string (tx toks (a+1)),.string ⟨#[]⟩,.nilIface]:=hc1.set 2 _;have HC2:=hid hc2;clear hP1 hF1 hc1 hc2;go_wp2_with fail
 refine (aT toks pb tb cap (a+2) 0 _ _ HC2.out.ps HX2.out HL.out HT2.out).mono ?_;rintro e w3⟨rfl,hP1,hF1⟩;have HC3:=hid (HC2.out.call hF1 hP1);clear hP1 hF1;go_wp2_with fail
 refine (jA toks pb tb cap (a+3) 0 _ HC3.out.ps HX3.out HL.out HT3.out).mono ?_;rintro e w4⟨rfl,hP1,hF1⟩;have hc1:=HC3.out.call hF1 hP1;have q3:w4.cell? ⟨w1.heap.size,3,none⟩=some (.string ⟨#[]⟩):=hc1.cell 3;have g3:=hc1.f 3;have hc2:LS toks pb tb cap w w1.heap.size (w4.setCell ⟨w1.heap.size,3,none⟩ (.string (tx toks (a+3)))) (a+4) #[.int .i64 0,.int .i64 0,.string ⟨#[]⟩,.string ⟨#[]⟩,.nilIface] #[.int .i64 k,.int .i64 n,.string (tx toks (a+1)),.string (tx toks (a+3)),.nilIface]:=hc1.set 3 _;have HC4:=hid hc2;clear hP1 hF1 hc1 hc2;go_wp2_with fail
 refine (aT toks pb tb cap (a+4) 0 _ _ HC4.out.ps HX4.out HL.out HT4.out).mono ?_;rintro e w5⟨rfl,hP1,hF1⟩;have HC5:=hid (HC4.out.call hF1 hP1);clear hP1 hF1;go_wp2_with fail
 refine (tH HW.out pb tb cap (a+5) _ HX5.out HC5.out.ps).mono ?_;rw[HE.out];rintro e w6⟨⟨v,rfl,hv,hx⟩,hP1,hb6,hF1⟩;have hc1:=HC5.out.call hF1 hP1;have q4:w6.cell? ⟨w1.heap.size,4,none⟩=some .nilIface:=hc1.cell 4;have g4:=hc1.f 4;clear hP1 hF1 hx;rcases hv with rfl|⟨t,y,rfl⟩
 . have hc2:=hc1.set 4 (.nilIface)
   clear hc1;have r0:(w6.setCell ⟨w1.heap.size,4,none⟩ (.nilIface)).cell? ⟨w.heap.size,0,none⟩=some (.int .i64 0):=hc2.toRS.cell 0;have rf0:=hc2.toRS.f 0;have r1:(w6.setCell ⟨w1.heap.size,4,none⟩ (.nilIface)).cell? ⟨w.heap.size,1,none⟩=some (.int .i64 0):=hc2.toRS.cell 1;have rf1:=hc2.toRS.f 1;have r2:(w6.setCell ⟨w1.heap.size,4,none⟩ (.nilIface)).cell? ⟨w.heap.size,2,none⟩=some (.string ⟨#[]⟩):=hc2.toRS.cell 2;have rf2:=hc2.toRS.f 2;have r3:(w6.setCell ⟨w1.heap.size,4,none⟩ (.nilIface)).cell? ⟨w.heap.size,3,none⟩=some (.string ⟨#[]⟩):=hc2.toRS.cell 3;have rf3:=hc2.toRS.f 3;have r4:(w6.setCell ⟨w1.heap.size,4,none⟩ (.nilIface)).cell? ⟨w.heap.size,4,none⟩=some .nilIface:=hc2.toRS.cell 4;have rf4:=hc2.toRS.f 4;have hR:RS toks pb tb cap w ((((((w6.setCell ⟨w1.heap.size,4,none⟩ (.nilIface)).setCell ⟨w.heap.size,0,none⟩ (.int .i64 0)).setCell ⟨w.heap.size,1,none⟩ (.int .i64 0)).setCell ⟨w.heap.size,2,none⟩ (.string ⟨#[]⟩)).setCell ⟨w.heap.size,3,none⟩ (.string ⟨#[]⟩)).setCell ⟨w.heap.size,4,none⟩ .nilIface) (b) #[.int .i64 0,.int .i64 0,.string ⟨#[]⟩,.string ⟨#[]⟩,.nilIface]:=hc2.toRS.put (.int .i64 0) (.int .i64 0) (.string ⟨#[]⟩) (.string ⟨#[]⟩) .nilIface;have y0:((((((w6.setCell ⟨w1.heap.size,4,none⟩ (.nilIface)).setCell ⟨w.heap.size,0,none⟩ (.int .i64 0)).setCell ⟨w.heap.size,1,none⟩ (.int .i64 0)).setCell ⟨w.heap.size,2,none⟩ (.string ⟨#[]⟩)).setCell ⟨w.heap.size,3,none⟩ (.string ⟨#[]⟩)).setCell ⟨w.heap.size,4,none⟩ .nilIface).cell? ⟨w.heap.size,0,none⟩=some (.int .i64 0):=hR.cell 0;have y1:((((((w6.setCell ⟨w1.heap.size,4,none⟩ (.nilIface)).setCell ⟨w.heap.size,0,none⟩ (.int .i64 0)).setCell ⟨w.heap.size,1,none⟩ (.int .i64 0)).setCell ⟨w.heap.size,2,none⟩ (.string ⟨#[]⟩)).setCell ⟨w.heap.size,3,none⟩ (.string ⟨#[]⟩)).setCell ⟨w.heap.size,4,none⟩ .nilIface).cell? ⟨w.heap.size,1,none⟩=some (.int .i64 0):=hR.cell 1;have y2:((((((w6.setCell ⟨w1.heap.size,4,none⟩ (.nilIface)).setCell ⟨w.heap.size,0,none⟩ (.int .i64 0)).setCell ⟨w.heap.size,1,none⟩ (.int .i64 0)).setCell ⟨w.heap.size,2,none⟩ (.string ⟨#[]⟩)).setCell ⟨w.heap.size,3,none⟩ (.string ⟨#[]⟩)).setCell ⟨w.heap.size,4,none⟩ .nilIface).cell? ⟨w.heap.size,2,none⟩=some (.string ⟨#[]⟩):=hR.cell 2;have y3:((((((w6.setCell ⟨w1.heap.size,4,none⟩ (.nilIface)).setCell ⟨w.heap.size,0,none⟩ (.int .i64 0)).setCell ⟨w.heap.size,1,none⟩ (.int .i64 0)).setCell ⟨w.heap.size,2,none⟩ (.string ⟨#[]⟩)).setCell ⟨w.heap.size,3,none⟩ (.string ⟨#[]⟩)).setCell ⟨w.heap.size,4,none⟩ .nilIface).cell? ⟨w.heap.size,3,none⟩=some (.string ⟨#[]⟩):=hR.cell 3;have y4:((((((w6.setCell ⟨w1.heap.size,4,none⟩ (.nilIface)).setCell ⟨w.heap.size,0,none⟩ (.int .i64 0)).setCell ⟨w.heap.size,1,none⟩ (.int .i64 0)).setCell ⟨w.heap.size,2,none⟩ (.string ⟨#[]⟩)).setCell ⟨w.heap.size,3,none⟩ (.string ⟨#[]⟩)).setCell ⟨w.heap.size,4,none⟩ .nilIface).cell? ⟨w.heap.size,4,none⟩=some .nilIface:=hR.cell 4;have HR:=hid hR;clear hR hc2;go_wp2;refine bodyPost_ret (v:=.tuple #[.agg #[.int .i64 0,.int .i64 0,.string ⟨#[]⟩,.string ⟨#[]⟩,.nilIface],.bool false]) (by simp[results,Tryz.results145,go_sem,y0,y1,y2,y3,y4];try rfl) rfl ?_;exact⟨⟨_,rfl,⟨_,_,_,_,_,rfl,.inl rfl⟩,fun x h=>by cases h⟩,HR.out.ps,hb6,HR.out.fr⟩
 . have hc2:=hc1.set 4 (.iface t y)
   clear hc1;have r0:(w6.setCell ⟨w1.heap.size,4,none⟩ (.iface t y)).cell? ⟨w.heap.size,0,none⟩=some (.int .i64 0):=hc2.toRS.cell 0;have rf0:=hc2.toRS.f 0;have r1:(w6.setCell ⟨w1.heap.size,4,none⟩ (.iface t y)).cell? ⟨w.heap.size,1,none⟩=some (.int .i64 0):=hc2.toRS.cell 1;have rf1:=hc2.toRS.f 1;have r2:(w6.setCell ⟨w1.heap.size,4,none⟩ (.iface t y)).cell? ⟨w.heap.size,2,none⟩=some (.string ⟨#[]⟩):=hc2.toRS.cell 2;have rf2:=hc2.toRS.f 2;have r3:(w6.setCell ⟨w1.heap.size,4,none⟩ (.iface t y)).cell? ⟨w.heap.size,3,none⟩=some (.string ⟨#[]⟩):=hc2.toRS.cell 3;have rf3:=hc2.toRS.f 3;have r4:(w6.setCell ⟨w1.heap.size,4,none⟩ (.iface t y)).cell? ⟨w.heap.size,4,none⟩=some .nilIface:=hc2.toRS.cell 4;have rf4:=hc2.toRS.f 4;have hR:RS toks pb tb cap w ((((((w6.setCell ⟨w1.heap.size,4,none⟩ (.iface t y)).setCell ⟨w.heap.size,0,none⟩ (.int .i64 0)).setCell ⟨w.heap.size,1,none⟩ (.int .i64 0)).setCell ⟨w.heap.size,2,none⟩ (.string ⟨#[]⟩)).setCell ⟨w.heap.size,3,none⟩ (.string ⟨#[]⟩)).setCell ⟨w.heap.size,4,none⟩ .nilIface) (b) #[.int .i64 0,.int .i64 0,.string ⟨#[]⟩,.string ⟨#[]⟩,.nilIface]:=hc2.toRS.put (.int .i64 0) (.int .i64 0) (.string ⟨#[]⟩) (.string ⟨#[]⟩) .nilIface;have y0:((((((w6.setCell ⟨w1.heap.size,4,none⟩ (.iface t y)).setCell ⟨w.heap.size,0,none⟩ (.int .i64 0)).setCell ⟨w.heap.size,1,none⟩ (.int .i64 0)).setCell ⟨w.heap.size,2,none⟩ (.string ⟨#[]⟩)).setCell ⟨w.heap.size,3,none⟩ (.string ⟨#[]⟩)).setCell ⟨w.heap.size,4,none⟩ .nilIface).cell? ⟨w.heap.size,0,none⟩=some (.int .i64 0):=hR.cell 0;have y1:((((((w6.setCell ⟨w1.heap.size,4,none⟩ (.iface t y)).setCell ⟨w.heap.size,0,none⟩ (.int .i64 0)).setCell ⟨w.heap.size,1,none⟩ (.int .i64 0)).setCell ⟨w.heap.size,2,none⟩ (.string ⟨#[]⟩)).setCell ⟨w.heap.size,3,none⟩ (.string ⟨#[]⟩)).setCell ⟨w.heap.size,4,none⟩ .nilIface).cell? ⟨w.heap.size,1,none⟩=some (.int .i64 0):=hR.cell 1;have y2:((((((w6.setCell ⟨w1.heap.size,4,none⟩ (.iface t y)).setCell ⟨w.heap.size,0,none⟩ (.int .i64 0)).setCell ⟨w.heap.size,1,none⟩ (.int .i64 0)).setCell ⟨w.heap.size,2,none⟩ (.string ⟨#[]⟩)).setCell ⟨w.heap.size,3,none⟩ (.string ⟨#[]⟩)).setCell ⟨w.heap.size,4,none⟩ .nilIface).cell? ⟨w.heap.size,2,none⟩=some (.string ⟨#[]⟩):=hR.cell 2;have y3:((((((w6.setCell ⟨w1.heap.size,4,none⟩ (.iface t y)).setCell ⟨w.heap.size,0,none⟩ (.int .i64 0)).setCell ⟨w.heap.size,1,none⟩ (.int .i64 0)).setCell ⟨w.heap.size,2,none⟩ (.string ⟨#[]⟩)).setCell ⟨w.heap.size,3,none⟩ (.string ⟨#[]⟩)).setCell ⟨w.heap.size,4,none⟩ .nilIface).cell? ⟨w.heap.size,3,none⟩=some (.string ⟨#[]⟩):=hR.cell 3;have y4:((((((w6.setCell ⟨w1.heap.size,4,none⟩ (.iface t y)).setCell ⟨w.heap.size,0,none⟩ (.int .i64 0)).setCell ⟨w.heap.size,1,none⟩ (.int .i64 0)).setCell ⟨w.heap.size,2,none⟩ (.string ⟨#[]⟩)).setCell ⟨w.heap.size,3,none⟩ (.string ⟨#[]⟩)).setCell ⟨w.heap.size,4,none⟩ .nilIface).cell? ⟨w.heap.size,4,none⟩=some .nilIface:=hR.cell 4;have HR:=hid hR;clear hR hc2;go_wp2;refine bodyPost_ret (v:=.tuple #[.agg #[.int .i64 0,.int .i64 0,.string ⟨#[]⟩,.string ⟨#[]⟩,.nilIface],.bool false]) (by simp[results,Tryz.results145,go_sem,y0,y1,y2,y3,y4];try rfl) rfl ?_;exact⟨⟨_,rfl,⟨_,_,_,_,_,rfl,.inl rfl⟩,fun x h=>by cases h⟩,HR.out.ps,hb6,HR.out.fr⟩
theorem Mz{toks:List Tok}(hw:Wf toks)(pb tb cap k a n:Nat)(hn:n=a+1)(w:World)(ha:a<toks.length)(hP:PS toks pb tb cap a 0 w.heap)
 (h0:cC toks a [108,101,116]=true) (h1:bR (tx toks (a+1))=true) (h2:cC toks (a+2) [58]=true) (h3:mM toks (a+3)=true) (h4:cC toks (a+4) [61]=true) (b:Nat) (t:TypeId) (y:Value) (he:kV toks (a+5)=(b,some (.iface t y))) (h6:cC toks b [59]=false) :
 Calls Tryz.prog 145 #[.pointer (some ⟨pb,0,none⟩),.int .i64 k] w (kG toks pb tb cap (b) none w):=by
 have HT0:Hid (bB (tx toks a) ⟨#[108,101,116]⟩=true):=hid ((aR toks a [108,101,116]).symm.trans h0);have HX1:=hid (hw.next_isT ha h0);have HB1:Hid (a+1<401):=hid (by have:=hw.le;have:=HX1.out;omega);have HS1:Hid ((tx toks (a+1)).size<=maxLen):=hid (by have:=hw.size (a+1);unfold maxLen;omega);have HN1:=hid h1;have HX2:Hid (a+2<toks.length):=hid (hw.next HX1.out (jL h1));have HT2:Hid (bB (tx toks (a+2)) ⟨#[58]⟩=true):=hid ((aR toks (a+2) [58]).symm.trans h2);have HX3:Hid (a+3<toks.length):=hid (hw.next_isT HX2.out h2);have HT3:=hid h3;have HX4:Hid (a+4<toks.length):=hid (hw.next HX3.out (sP h3));have HT4:Hid (bB (tx toks (a+4)) ⟨#[61]⟩=true):=hid ((aR toks (a+4) [61]).symm.trans h4);have HX5:Hid (a+5<toks.length):=hid (hw.next_isT HX4.out h4);have HE:=hid he;have HT6:Hid (bB (tx toks b) ⟨#[59]⟩=false):=hid ((aR toks b [59]).symm.trans h6);have hz:=RS.start hP #[.int .i64 0,.int .i64 0,.string ⟨#[]⟩,.string ⟨#[]⟩,.nilIface];have HZ0:=hid hz;have HL:=hid hw.le;have HW:=hid hw;have HN0:=hid hn;have ha4:Hid (toks.length<=401):=hid hw.le;clear hz hP hw hn;clear h0 h1 h2 h3 h4 he h6;go_enter Tryz.func145,Tryz.ntmps145;go_wp2_with fail
 refine (aT toks pb tb cap a 0 _ _ HZ0.out.ps ha HL.out HT0.out).mono ?_;rintro e w1⟨rfl,hP1,hF1⟩;have hz1:=HZ0.out.call hF1 hP1;have c1:w1.cell? ⟨pb,1,none⟩=some (.int .i64 n):=by rw[HN0.out];exact hz1.ps.c1
 have HC1:Hid (LS toks pb tb cap w w1.heap.size (w1.alloc (.cells #[.int .i64 k,.int .i64 n,.string ⟨#[]⟩,.string ⟨#[]⟩,.nilIface] 137)) (a+1) #[.int .i64 0,.int .i64 0,.string ⟨#[]⟩,.string ⟨#[]⟩,.nilIface] #[.int .i64 k,.int .i64 n,.string ⟨#[]⟩,.string ⟨#[]⟩,.nilIface]):=hid (hz1.item _);clear hP1 hF1 hz1;go_wp2_with fail
 refine (iG toks pb tb cap (a+1) 0 _ HC1.out.ps HX1.out HB1.out HS1.out HN1.out).mono ?_;rintro e w2⟨rfl,hP1,hF1⟩;have hc1:=HC1.out.call hF1 hP1;have q2:w2.cell? ⟨w1.heap.size,2,none⟩=some (.string ⟨#[]⟩):=hc1.cell 2;have g2:=hc1.f 2;have hc2:LS toks pb tb cap w w1.heap.size (w2.setCell ⟨w1.heap.size,2,none⟩ (.string (tx toks (a+1)))) (a+2) #[.int .i64 0,.int .i64 0,.string ⟨#[]⟩,.string ⟨#[]⟩,.nilIface] #[.int .i64 k,.int .i64 n,.string (tx toks (a+1)),.string ⟨#[]⟩,.nilIface]:=hc1.set 2 _;have HC2:=hid hc2;clear hP1 hF1 hc1 hc2;go_wp2_with fail
 refine (aT toks pb tb cap (a+2) 0 _ _ HC2.out.ps HX2.out HL.out HT2.out).mono ?_;rintro e w3⟨rfl,hP1,hF1⟩;have HC3:=hid (HC2.out.call hF1 hP1);clear hP1 hF1;go_wp2_with fail
 refine (jA toks pb tb cap (a+3) 0 _ HC3.out.ps HX3.out HL.out HT3.out).mono ?_;rintro e w4⟨rfl,hP1,hF1⟩;have hc1:=HC3.out.call hF1 hP1;have q3:w4.cell? ⟨w1.heap.size,3,none⟩=some (.string ⟨#[]⟩):=hc1.cell 3;have g3:=hc1.f 3;have hc2:LS toks pb tb cap w w1.heap.size (w4.setCell ⟨w1.heap.size,3,none⟩ (.string (tx toks (a+3)))) (a+4) #[.int .i64 0,.int .i64 0,.string ⟨#[]⟩,.string ⟨#[]⟩,.nilIface] #[.int .i64 k,.int .i64 n,.string (tx toks (a+1)),.string (tx toks (a+3)),.nilIface]:=hc1.set 3 _;have HC4:=hid hc2;clear hP1 hF1 hc1 hc2;go_wp2_with fail
 refine (aT toks pb tb cap (a+4) 0 _ _ HC4.out.ps HX4.out HL.out HT4.out).mono ?_;rintro e w5⟨rfl,hP1,hF1⟩;have HC5:=hid (HC4.out.call hF1 hP1);clear hP1 hF1;go_wp2_with fail
 refine (tH HW.out pb tb cap (a+5) _ HX5.out HC5.out.ps).mono ?_;rw[HE.out];rintro e w6⟨⟨v,rfl,hv,hx⟩,hP1,hb6,hF1⟩;have hc1:=HC5.out.call hF1 hP1;have q4:w6.cell? ⟨w1.heap.size,4,none⟩=some .nilIface:=hc1.cell 4;have g4:=hc1.f 4;obtain rfl:=hx _ rfl;clear hx hv;have hc2:LS toks pb tb cap w w1.heap.size (w6.setCell ⟨w1.heap.size,4,none⟩ (.iface t y)) b #[.int .i64 0,.int .i64 0,.string ⟨#[]⟩,.string ⟨#[]⟩,.nilIface] #[.int .i64 k,.int .i64 n,.string (tx toks (a+1)),.string (tx toks (a+3)),.iface t y]:=hc1.set 4 _;have HC6:=hid hc2;clear hP1 hF1 hc1 hc2;have e0:(w6.setCell ⟨w1.heap.size,4,none⟩ (.iface t y)).drew.cell? ⟨w1.heap.size,0,none⟩=some (.int .i64 k):=HC6.out.cell 0;have e1:(w6.setCell ⟨w1.heap.size,4,none⟩ (.iface t y)).drew.cell? ⟨w1.heap.size,1,none⟩=some (.int .i64 n):=HC6.out.cell 1;have e2:(w6.setCell ⟨w1.heap.size,4,none⟩ (.iface t y)).drew.cell? ⟨w1.heap.size,2,none⟩=some (.string (tx toks (a+1))):=HC6.out.cell 2;have e3:(w6.setCell ⟨w1.heap.size,4,none⟩ (.iface t y)).drew.cell? ⟨w1.heap.size,3,none⟩=some (.string (tx toks (a+3))):=HC6.out.cell 3;have e4:(w6.setCell ⟨w1.heap.size,4,none⟩ (.iface t y)).drew.cell? ⟨w1.heap.size,4,none⟩=some (.iface t y):=HC6.out.cell 4;go_wp2_with fail
 go_region_with (go_at_call 143;go_must (refine (dF toks pb tb cap _ 0 _ _ ?hps hb6 HT6.out).mono ?_;(case hps=>exact HC6.out.ps);rintro e w7⟨rfl,hP2,hF2⟩;have hc3:=HC6.out.call ((Fr.refl _ _).drew.trans hF2) hP2;have k0:w7.cell? ⟨w1.heap.size,0,none⟩=some (.int .i64 k):=hc3.cell 0;have k1:w7.cell? ⟨w1.heap.size,1,none⟩=some (.int .i64 n):=hc3.cell 1;have k2:w7.cell? ⟨w1.heap.size,2,none⟩=some (.string (tx toks (a+1))):=hc3.cell 2;have k3:w7.cell? ⟨w1.heap.size,3,none⟩=some (.string (tx toks (a+3))):=hc3.cell 3;have k4:w7.cell? ⟨w1.heap.size,4,none⟩=some (.iface t y):=hc3.cell 4;have r0:w7.cell? ⟨w.heap.size,0,none⟩=some (.int .i64 0):=hc3.toRS.cell 0;have r1:w7.cell? ⟨w.heap.size,1,none⟩=some (.int .i64 0):=hc3.toRS.cell 1;have r2:w7.cell? ⟨w.heap.size,2,none⟩=some (.string ⟨#[]⟩):=hc3.toRS.cell 2;have r3:w7.cell? ⟨w.heap.size,3,none⟩=some (.string ⟨#[]⟩):=hc3.toRS.cell 3;have r4:w7.cell? ⟨w.heap.size,4,none⟩=some .nilIface:=hc3.toRS.cell 4;have rf0:=hc3.toRS.f 0;have rf1:=hc3.toRS.f 1;have rf2:=hc3.toRS.f 2;have rf3:=hc3.toRS.f 3;have rf4:=hc3.toRS.f 4;have HC7:=hid hc3;clear hP2 hF2 hc3))
 all_goals
  have hR:RS toks pb tb cap w (((((w7.setCell ⟨w.heap.size,0,none⟩ (.int .i64 k)).setCell ⟨w.heap.size,1,none⟩ (.int .i64 n)).setCell ⟨w.heap.size,2,none⟩ (.string (tx toks (a+1)))).setCell ⟨w.heap.size,3,none⟩ (.string (tx toks (a+3)))).setCell ⟨w.heap.size,4,none⟩ (.iface t y)) (b) #[.int .i64 k,.int .i64 n,.string (tx toks (a+1)),.string (tx toks (a+3)),.iface t y]:=HC7.out.toRS.put (.int .i64 k) (.int .i64 n) (.string (tx toks (a+1))) (.string (tx toks (a+3))) (.iface t y);have y0:(((((w7.setCell ⟨w.heap.size,0,none⟩ (.int .i64 k)).setCell ⟨w.heap.size,1,none⟩ (.int .i64 n)).setCell ⟨w.heap.size,2,none⟩ (.string (tx toks (a+1)))).setCell ⟨w.heap.size,3,none⟩ (.string (tx toks (a+3)))).setCell ⟨w.heap.size,4,none⟩ (.iface t y)).cell? ⟨w.heap.size,0,none⟩=some (.int .i64 k):=hR.cell 0;have y1:(((((w7.setCell ⟨w.heap.size,0,none⟩ (.int .i64 k)).setCell ⟨w.heap.size,1,none⟩ (.int .i64 n)).setCell ⟨w.heap.size,2,none⟩ (.string (tx toks (a+1)))).setCell ⟨w.heap.size,3,none⟩ (.string (tx toks (a+3)))).setCell ⟨w.heap.size,4,none⟩ (.iface t y)).cell? ⟨w.heap.size,1,none⟩=some (.int .i64 n):=hR.cell 1;have y2:(((((w7.setCell ⟨w.heap.size,0,none⟩ (.int .i64 k)).setCell ⟨w.heap.size,1,none⟩ (.int .i64 n)).setCell ⟨w.heap.size,2,none⟩ (.string (tx toks (a+1)))).setCell ⟨w.heap.size,3,none⟩ (.string (tx toks (a+3)))).setCell ⟨w.heap.size,4,none⟩ (.iface t y)).cell? ⟨w.heap.size,2,none⟩=some (.string (tx toks (a+1))):=hR.cell 2;have y3:(((((w7.setCell ⟨w.heap.size,0,none⟩ (.int .i64 k)).setCell ⟨w.heap.size,1,none⟩ (.int .i64 n)).setCell ⟨w.heap.size,2,none⟩ (.string (tx toks (a+1)))).setCell ⟨w.heap.size,3,none⟩ (.string (tx toks (a+3)))).setCell ⟨w.heap.size,4,none⟩ (.iface t y)).cell? ⟨w.heap.size,3,none⟩=some (.string (tx toks (a+3))):=hR.cell 3;have y4:(((((w7.setCell ⟨w.heap.size,0,none⟩ (.int .i64 k)).setCell ⟨w.heap.size,1,none⟩ (.int .i64 n)).setCell ⟨w.heap.size,2,none⟩ (.string (tx toks (a+1)))).setCell ⟨w.heap.size,3,none⟩ (.string (tx toks (a+3)))).setCell ⟨w.heap.size,4,none⟩ (.iface t y)).cell? ⟨w.heap.size,4,none⟩=some (.iface t y):=hR.cell 4;have HR:=hid hR;clear hR;go_wp2;refine bodyPost_ret (v:=.tuple #[.agg #[.int .i64 k,.int .i64 n,.string (tx toks (a+1)),.string (tx toks (a+3)),.iface t y],.bool false]) (by simp[results,Tryz.results145,go_sem,y0,y1,y2,y3,y4];try rfl) rfl ?_;exact⟨⟨_,rfl,⟨_,_,_,_,_,rfl,.inr ⟨_,_,rfl⟩⟩,fun x h=>by cases h⟩,HR.out.ps,hb6,HR.out.fr⟩
theorem MA{toks:List Tok}(hw:Wf toks)(pb tb cap k a n:Nat)(hn:n=a+1)(w:World)(ha:a<toks.length)(hP:PS toks pb tb cap a 0 w.heap)
 (h0:cC toks a [108,101,116]=true) (h1:bR (tx toks (a+1))=true) (h2:cC toks (a+2) [58]=true) (h3:mM toks (a+3)=true) (h4:cC toks (a+4) [61]=true) (b:Nat) (t:TypeId) (y:Value) (he:kV toks (a+5)=(b,some (.iface t y))) (h6:cC toks b [59]=true) (h7:b+1<toks.length) :
 Calls Tryz.prog 145 #[.pointer (some ⟨pb,0,none⟩),.int .i64 k] w (kG toks pb tb cap (b+1) (some ⟨k,n,tx toks (a+1),tx toks (a+3),.iface t y⟩) w):=by
 have HT0:Hid (bB (tx toks a) ⟨#[108,101,116]⟩=true):=hid ((aR toks a [108,101,116]).symm.trans h0);have HX1:=hid (hw.next_isT ha h0);have HB1:Hid (a+1<401):=hid (by have:=hw.le;have:=HX1.out;omega);have HS1:Hid ((tx toks (a+1)).size<=maxLen):=hid (by have:=hw.size (a+1);unfold maxLen;omega);have HN1:=hid h1;have HX2:Hid (a+2<toks.length):=hid (hw.next HX1.out (jL h1));have HT2:Hid (bB (tx toks (a+2)) ⟨#[58]⟩=true):=hid ((aR toks (a+2) [58]).symm.trans h2);have HX3:Hid (a+3<toks.length):=hid (hw.next_isT HX2.out h2);have HT3:=hid h3;have HX4:Hid (a+4<toks.length):=hid (hw.next HX3.out (sP h3));have HT4:Hid (bB (tx toks (a+4)) ⟨#[61]⟩=true):=hid ((aR toks (a+4) [61]).symm.trans h4);have HX5:Hid (a+5<toks.length):=hid (hw.next_isT HX4.out h4);have HE:=hid he;have HT6:Hid (bB (tx toks b) ⟨#[59]⟩=true):=hid ((aR toks b [59]).symm.trans h6);have HX6:=hid h7;have hz:=RS.start hP #[.int .i64 0,.int .i64 0,.string ⟨#[]⟩,.string ⟨#[]⟩,.nilIface];have HZ0:=hid hz;have HL:=hid hw.le;have HW:=hid hw;have HN0:=hid hn;have ha4:Hid (toks.length<=401):=hid hw.le;clear hz hP hw hn;clear h0 h1 h2 h3 h4 he h6 h7;go_enter Tryz.func145,Tryz.ntmps145;go_wp2_with fail
 refine (aT toks pb tb cap a 0 _ _ HZ0.out.ps ha HL.out HT0.out).mono ?_;rintro e w1⟨rfl,hP1,hF1⟩;have hz1:=HZ0.out.call hF1 hP1;have c1:w1.cell? ⟨pb,1,none⟩=some (.int .i64 n):=by rw[HN0.out];exact hz1.ps.c1
 have HC1:Hid (LS toks pb tb cap w w1.heap.size (w1.alloc (.cells #[.int .i64 k,.int .i64 n,.string ⟨#[]⟩,.string ⟨#[]⟩,.nilIface] 137)) (a+1) #[.int .i64 0,.int .i64 0,.string ⟨#[]⟩,.string ⟨#[]⟩,.nilIface] #[.int .i64 k,.int .i64 n,.string ⟨#[]⟩,.string ⟨#[]⟩,.nilIface]):=hid (hz1.item _);clear hP1 hF1 hz1;go_wp2_with fail
 refine (iG toks pb tb cap (a+1) 0 _ HC1.out.ps HX1.out HB1.out HS1.out HN1.out).mono ?_;rintro e w2⟨rfl,hP1,hF1⟩;have hc1:=HC1.out.call hF1 hP1;have q2:w2.cell? ⟨w1.heap.size,2,none⟩=some (.string ⟨#[]⟩):=hc1.cell 2;have g2:=hc1.f 2;have hc2:LS toks pb tb cap w w1.heap.size (w2.setCell ⟨w1.heap.size,2,none⟩ (.string (tx toks (a+1)))) (a+2) #[.int .i64 0,.int .i64 0,.string ⟨#[]⟩,.string ⟨#[]⟩,.nilIface] #[.int .i64 k,.int .i64 n,.string (tx toks (a+1)),.string ⟨#[]⟩,.nilIface]:=hc1.set 2 _;have HC2:=hid hc2;clear hP1 hF1 hc1 hc2;go_wp2_with fail
 refine (aT toks pb tb cap (a+2) 0 _ _ HC2.out.ps HX2.out HL.out HT2.out).mono ?_;rintro e w3⟨rfl,hP1,hF1⟩;have HC3:=hid (HC2.out.call hF1 hP1);clear hP1 hF1;go_wp2_with fail
 refine (jA toks pb tb cap (a+3) 0 _ HC3.out.ps HX3.out HL.out HT3.out).mono ?_;rintro e w4⟨rfl,hP1,hF1⟩;have hc1:=HC3.out.call hF1 hP1;have q3:w4.cell? ⟨w1.heap.size,3,none⟩=some (.string ⟨#[]⟩):=hc1.cell 3;have g3:=hc1.f 3;have hc2:LS toks pb tb cap w w1.heap.size (w4.setCell ⟨w1.heap.size,3,none⟩ (.string (tx toks (a+3)))) (a+4) #[.int .i64 0,.int .i64 0,.string ⟨#[]⟩,.string ⟨#[]⟩,.nilIface] #[.int .i64 k,.int .i64 n,.string (tx toks (a+1)),.string (tx toks (a+3)),.nilIface]:=hc1.set 3 _;have HC4:=hid hc2;clear hP1 hF1 hc1 hc2;go_wp2_with fail
 refine (aT toks pb tb cap (a+4) 0 _ _ HC4.out.ps HX4.out HL.out HT4.out).mono ?_;rintro e w5⟨rfl,hP1,hF1⟩;have HC5:=hid (HC4.out.call hF1 hP1);clear hP1 hF1;go_wp2_with fail
 refine (tH HW.out pb tb cap (a+5) _ HX5.out HC5.out.ps).mono ?_;rw[HE.out];rintro e w6⟨⟨v,rfl,hv,hx⟩,hP1,hb6,hF1⟩;have hc1:=HC5.out.call hF1 hP1;have q4:w6.cell? ⟨w1.heap.size,4,none⟩=some .nilIface:=hc1.cell 4;have g4:=hc1.f 4;obtain rfl:=hx _ rfl;clear hx hv;have hc2:LS toks pb tb cap w w1.heap.size (w6.setCell ⟨w1.heap.size,4,none⟩ (.iface t y)) b #[.int .i64 0,.int .i64 0,.string ⟨#[]⟩,.string ⟨#[]⟩,.nilIface] #[.int .i64 k,.int .i64 n,.string (tx toks (a+1)),.string (tx toks (a+3)),.iface t y]:=hc1.set 4 _;have HC6:=hid hc2;clear hP1 hF1 hc1 hc2;have e0:(w6.setCell ⟨w1.heap.size,4,none⟩ (.iface t y)).drew.cell? ⟨w1.heap.size,0,none⟩=some (.int .i64 k):=HC6.out.cell 0;have e1:(w6.setCell ⟨w1.heap.size,4,none⟩ (.iface t y)).drew.cell? ⟨w1.heap.size,1,none⟩=some (.int .i64 n):=HC6.out.cell 1;have e2:(w6.setCell ⟨w1.heap.size,4,none⟩ (.iface t y)).drew.cell? ⟨w1.heap.size,2,none⟩=some (.string (tx toks (a+1))):=HC6.out.cell 2;have e3:(w6.setCell ⟨w1.heap.size,4,none⟩ (.iface t y)).drew.cell? ⟨w1.heap.size,3,none⟩=some (.string (tx toks (a+3))):=HC6.out.cell 3;have e4:(w6.setCell ⟨w1.heap.size,4,none⟩ (.iface t y)).drew.cell? ⟨w1.heap.size,4,none⟩=some (.iface t y):=HC6.out.cell 4;go_wp2_with fail
 go_region_with (go_at_call 143;go_must (refine (aT toks pb tb cap _ 0 _ _ ?hps hb6 HL.out HT6.out).mono ?_;(case hps=>exact HC6.out.ps);rintro e w7⟨rfl,hP2,hF2⟩;have hc3:=HC6.out.call ((Fr.refl _ _).drew.trans hF2) hP2;have k0:w7.cell? ⟨w1.heap.size,0,none⟩=some (.int .i64 k):=hc3.cell 0;have k1:w7.cell? ⟨w1.heap.size,1,none⟩=some (.int .i64 n):=hc3.cell 1;have k2:w7.cell? ⟨w1.heap.size,2,none⟩=some (.string (tx toks (a+1))):=hc3.cell 2;have k3:w7.cell? ⟨w1.heap.size,3,none⟩=some (.string (tx toks (a+3))):=hc3.cell 3;have k4:w7.cell? ⟨w1.heap.size,4,none⟩=some (.iface t y):=hc3.cell 4;have r0:w7.cell? ⟨w.heap.size,0,none⟩=some (.int .i64 0):=hc3.toRS.cell 0;have r1:w7.cell? ⟨w.heap.size,1,none⟩=some (.int .i64 0):=hc3.toRS.cell 1;have r2:w7.cell? ⟨w.heap.size,2,none⟩=some (.string ⟨#[]⟩):=hc3.toRS.cell 2;have r3:w7.cell? ⟨w.heap.size,3,none⟩=some (.string ⟨#[]⟩):=hc3.toRS.cell 3;have r4:w7.cell? ⟨w.heap.size,4,none⟩=some .nilIface:=hc3.toRS.cell 4;have rf0:=hc3.toRS.f 0;have rf1:=hc3.toRS.f 1;have rf2:=hc3.toRS.f 2;have rf3:=hc3.toRS.f 3;have rf4:=hc3.toRS.f 4;have HC7:=hid hc3;clear hP2 hF2 hc3))
 all_goals
  have hR:RS toks pb tb cap w (((((w7.setCell ⟨w.heap.size,0,none⟩ (.int .i64 k)).setCell ⟨w.heap.size,1,none⟩ (.int .i64 n)).setCell ⟨w.heap.size,2,none⟩ (.string (tx toks (a+1)))).setCell ⟨w.heap.size,3,none⟩ (.string (tx toks (a+3)))).setCell ⟨w.heap.size,4,none⟩ (.iface t y)) (b+1) #[.int .i64 k,.int .i64 n,.string (tx toks (a+1)),.string (tx toks (a+3)),.iface t y]:=HC7.out.toRS.put (.int .i64 k) (.int .i64 n) (.string (tx toks (a+1))) (.string (tx toks (a+3))) (.iface t y);have y0:(((((w7.setCell ⟨w.heap.size,0,none⟩ (.int .i64 k)).setCell ⟨w.heap.size,1,none⟩ (.int .i64 n)).setCell ⟨w.heap.size,2,none⟩ (.string (tx toks (a+1)))).setCell ⟨w.heap.size,3,none⟩ (.string (tx toks (a+3)))).setCell ⟨w.heap.size,4,none⟩ (.iface t y)).cell? ⟨w.heap.size,0,none⟩=some (.int .i64 k):=hR.cell 0;have y1:(((((w7.setCell ⟨w.heap.size,0,none⟩ (.int .i64 k)).setCell ⟨w.heap.size,1,none⟩ (.int .i64 n)).setCell ⟨w.heap.size,2,none⟩ (.string (tx toks (a+1)))).setCell ⟨w.heap.size,3,none⟩ (.string (tx toks (a+3)))).setCell ⟨w.heap.size,4,none⟩ (.iface t y)).cell? ⟨w.heap.size,1,none⟩=some (.int .i64 n):=hR.cell 1;have y2:(((((w7.setCell ⟨w.heap.size,0,none⟩ (.int .i64 k)).setCell ⟨w.heap.size,1,none⟩ (.int .i64 n)).setCell ⟨w.heap.size,2,none⟩ (.string (tx toks (a+1)))).setCell ⟨w.heap.size,3,none⟩ (.string (tx toks (a+3)))).setCell ⟨w.heap.size,4,none⟩ (.iface t y)).cell? ⟨w.heap.size,2,none⟩=some (.string (tx toks (a+1))):=hR.cell 2;have y3:(((((w7.setCell ⟨w.heap.size,0,none⟩ (.int .i64 k)).setCell ⟨w.heap.size,1,none⟩ (.int .i64 n)).setCell ⟨w.heap.size,2,none⟩ (.string (tx toks (a+1)))).setCell ⟨w.heap.size,3,none⟩ (.string (tx toks (a+3)))).setCell ⟨w.heap.size,4,none⟩ (.iface t y)).cell? ⟨w.heap.size,3,none⟩=some (.string (tx toks (a+3))):=hR.cell 3;have y4:(((((w7.setCell ⟨w.heap.size,0,none⟩ (.int .i64 k)).setCell ⟨w.heap.size,1,none⟩ (.int .i64 n)).setCell ⟨w.heap.size,2,none⟩ (.string (tx toks (a+1)))).setCell ⟨w.heap.size,3,none⟩ (.string (tx toks (a+3)))).setCell ⟨w.heap.size,4,none⟩ (.iface t y)).cell? ⟨w.heap.size,4,none⟩=some (.iface t y):=hR.cell 4;have HR:=hid hR;clear hR;go_wp2;refine bodyPost_ret (v:=.tuple #[.agg #[.int .i64 k,.int .i64 n,.string (tx toks (a+1)),.string (tx toks (a+3)),.iface t y],.bool true]) (by simp[results,Tryz.results145,go_sem,y0,y1,y2,y3,y4];try rfl) rfl ?_;exact⟨⟨_,rfl,⟨_,_,_,_,_,rfl,.inr ⟨_,_,rfl⟩⟩,fun x h=>by cases h;rfl⟩,HR.out.ps,HX6.out,HR.out.fr⟩
theorem Dy{toks:List Tok}(hw:Wf toks)(pb tb cap k a:Nat)(w:World)(ha:a<toks.length)(hP:PS toks pb tb cap a 0 w.heap) :
 Calls Tryz.prog 145 #[.pointer (some ⟨pb,0,none⟩),.int .i64 k] w (kG toks pb tb cap (kD toks k a).1 (kD toks k a).2 w):=by
 cases h0:cC toks a [108,101,116] with
 | false=>simpa[kD,h0] using Mt hw pb tb cap k a _ rfl w ha hP h0
 | true=>
 cases h1:bR (tx toks (a+1)) with
 | false=>simpa[kD,h0,h1] using Mu hw pb tb cap k a _ rfl w ha hP h0 h1
 | true=>
 cases h2:cC toks (a+2) [58] with
 | false=>simpa[kD,h0,h1,h2] using Mv hw pb tb cap k a _ rfl w ha hP h0 h1 h2
 | true=>
 cases h3:mM toks (a+3) with
 | false=>simpa[kD,h0,h1,h2,h3] using Mw hw pb tb cap k a _ rfl w ha hP h0 h1 h2 h3
 | true=>
 cases h4:cC toks (a+4) [61] with
 | false=>simpa[kD,h0,h1,h2,h3,h4] using Mx hw pb tb cap k a _ rfl w ha hP h0 h1 h2 h3 h4
 | true=>
 rcases he:kV toks (a+5) with ⟨b,r⟩
 cases r with
 | none=>simpa[kD,h0,h1,h2,h3,h4,he] using My hw pb tb cap k a _ rfl w ha hP h0 h1 h2 h3 h4 b he
 | some x=>
  obtain⟨t,y,rfl⟩:=AA hw he;cases h6:cC toks b [59] with
  | false=>simpa[kD,h0,h1,h2,h3,h4,he,h6] using Mz hw pb tb cap k a _ rfl w ha hP h0 h1 h2 h3 h4 b t y he h6
  | true=>simpa[kD,h0,h1,h2,h3,h4,he,h6] using MA hw pb tb cap k a _ rfl w ha hP h0 h1 h2 h3 h4 b t y he h6 (hw.next_isT (p6 h6) h6)

def mG(toks:List Tok)(a:Nat):Nat×Option It:=
 if cC toks a [117,115,101] then nZ toks (a+1) else if cC toks a [112,117,98] then kD toks 2 (a+1) else kD toks 1 a
theorem FP{toks:List Tok}(hw:Wf toks)(pb tb cap a:Nat)(w:World)(ha:a<toks.length)(hP:PS toks pb tb cap a 0 w.heap)(h0:cC toks a [117,115,101]=true) :
 Calls Tryz.prog 124 #[.pointer (some ⟨pb,0,none⟩)] w (kG toks pb tb cap (nZ toks (a+1)).1 (nZ toks (a+1)).2 w):=by
 have HT0:Hid (bB (tx toks a) ⟨#[117,115,101]⟩=true):=hid ((aR toks a [117,115,101]).symm.trans h0);have HX1:=hid (hw.next_isT ha h0);have HZ0:=hid (RS.start hP #[.int .i64 0,.int .i64 0,.string ⟨#[]⟩,.string ⟨#[]⟩,.nilIface]);have HL:=hid hw.le;have HW:=hid hw;generalize hsp:nZ toks (a+1)=z;obtain⟨b,r⟩:=z;have HSP:=hid hsp;clear hP hw hsp h0;go_enter Tryz.func124,Tryz.ntmps124;go_wp2_with fail
 refine (aT toks pb tb cap a 0 _ _ HZ0.out.ps ha HL.out HT0.out).mono ?_;rintro e w1⟨rfl,hP1,hF1⟩;have HZ:=hid (HZ0.out.call hF1 hP1);clear hP1 hF1;go_wp2_with fail
 refine (Ji HW.out pb tb cap (a+1) _ HX1.out HZ.out.ps).mono ?_;rw[HSP.out];rintro e w3⟨⟨v,rfl,⟨i0,i1,s2,s3,x4,rfl,hi⟩,hx⟩,hP3,hb3,hF3⟩;rcases hi with rfl|⟨t4,v4,rfl⟩
 . have hz3:=HZ.out.call hF3 hP3
   clear hP3 hF3;have r0:w3.cell? ⟨w.heap.size,0,none⟩=some (.int .i64 0):=hz3.cell 0;have rf0:=hz3.f 0;have r1:w3.cell? ⟨w.heap.size,1,none⟩=some (.int .i64 0):=hz3.cell 1;have rf1:=hz3.f 1;have r2:w3.cell? ⟨w.heap.size,2,none⟩=some (.string ⟨#[]⟩):=hz3.cell 2;have rf2:=hz3.f 2;have r3:w3.cell? ⟨w.heap.size,3,none⟩=some (.string ⟨#[]⟩):=hz3.cell 3;have rf3:=hz3.f 3;have r4:w3.cell? ⟨w.heap.size,4,none⟩=some .nilIface:=hz3.cell 4;have rf4:=hz3.f 4;have hR:RS toks pb tb cap w (((((w3.setCell ⟨w.heap.size,0,none⟩ (.int .i64 i0)).setCell ⟨w.heap.size,1,none⟩ (.int .i64 i1)).setCell ⟨w.heap.size,2,none⟩ (.string s2)).setCell ⟨w.heap.size,3,none⟩ (.string s3)).setCell ⟨w.heap.size,4,none⟩ .nilIface) _ #[(.int .i64 i0),(.int .i64 i1),(.string s2),(.string s3),.nilIface]:=hz3.put (.int .i64 i0) (.int .i64 i1) (.string s2) (.string s3) .nilIface;have y0:(((((w3.setCell ⟨w.heap.size,0,none⟩ (.int .i64 i0)).setCell ⟨w.heap.size,1,none⟩ (.int .i64 i1)).setCell ⟨w.heap.size,2,none⟩ (.string s2)).setCell ⟨w.heap.size,3,none⟩ (.string s3)).setCell ⟨w.heap.size,4,none⟩ .nilIface).cell? ⟨w.heap.size,0,none⟩=some (.int .i64 i0):=hR.cell 0;have y1:(((((w3.setCell ⟨w.heap.size,0,none⟩ (.int .i64 i0)).setCell ⟨w.heap.size,1,none⟩ (.int .i64 i1)).setCell ⟨w.heap.size,2,none⟩ (.string s2)).setCell ⟨w.heap.size,3,none⟩ (.string s3)).setCell ⟨w.heap.size,4,none⟩ .nilIface).cell? ⟨w.heap.size,1,none⟩=some (.int .i64 i1):=hR.cell 1;have y2:(((((w3.setCell ⟨w.heap.size,0,none⟩ (.int .i64 i0)).setCell ⟨w.heap.size,1,none⟩ (.int .i64 i1)).setCell ⟨w.heap.size,2,none⟩ (.string s2)).setCell ⟨w.heap.size,3,none⟩ (.string s3)).setCell ⟨w.heap.size,4,none⟩ .nilIface).cell? ⟨w.heap.size,2,none⟩=some (.string s2):=hR.cell 2;have y3:(((((w3.setCell ⟨w.heap.size,0,none⟩ (.int .i64 i0)).setCell ⟨w.heap.size,1,none⟩ (.int .i64 i1)).setCell ⟨w.heap.size,2,none⟩ (.string s2)).setCell ⟨w.heap.size,3,none⟩ (.string s3)).setCell ⟨w.heap.size,4,none⟩ .nilIface).cell? ⟨w.heap.size,3,none⟩=some (.string s3):=hR.cell 3;have y4:(((((w3.setCell ⟨w.heap.size,0,none⟩ (.int .i64 i0)).setCell ⟨w.heap.size,1,none⟩ (.int .i64 i1)).setCell ⟨w.heap.size,2,none⟩ (.string s2)).setCell ⟨w.heap.size,3,none⟩ (.string s3)).setCell ⟨w.heap.size,4,none⟩ .nilIface).cell? ⟨w.heap.size,4,none⟩=some .nilIface:=hR.cell 4;have HR:=hid hR;have HX:=hid hx;clear hR hz3 hx;go_wp2;refine bodyPost_ret (v:=.tuple #[.agg #[(.int .i64 i0),(.int .i64 i1),(.string s2),(.string s3),.nilIface],.bool r.isSome]) (by simp[results,Tryz.results124,go_sem,y0,y1,y2,y3,y4];try rfl) rfl ?_;exact⟨⟨_,rfl,⟨_,_,_,_,_,rfl,.inl rfl⟩,HX.out⟩,HR.out.ps,hb3,HR.out.fr⟩
 . have hz3:=HZ.out.call hF3 hP3
   clear hP3 hF3;have r0:w3.cell? ⟨w.heap.size,0,none⟩=some (.int .i64 0):=hz3.cell 0;have rf0:=hz3.f 0;have r1:w3.cell? ⟨w.heap.size,1,none⟩=some (.int .i64 0):=hz3.cell 1;have rf1:=hz3.f 1;have r2:w3.cell? ⟨w.heap.size,2,none⟩=some (.string ⟨#[]⟩):=hz3.cell 2;have rf2:=hz3.f 2;have r3:w3.cell? ⟨w.heap.size,3,none⟩=some (.string ⟨#[]⟩):=hz3.cell 3;have rf3:=hz3.f 3;have r4:w3.cell? ⟨w.heap.size,4,none⟩=some .nilIface:=hz3.cell 4;have rf4:=hz3.f 4;have hR:RS toks pb tb cap w (((((w3.setCell ⟨w.heap.size,0,none⟩ (.int .i64 i0)).setCell ⟨w.heap.size,1,none⟩ (.int .i64 i1)).setCell ⟨w.heap.size,2,none⟩ (.string s2)).setCell ⟨w.heap.size,3,none⟩ (.string s3)).setCell ⟨w.heap.size,4,none⟩ (.iface t4 v4)) _ #[(.int .i64 i0),(.int .i64 i1),(.string s2),(.string s3),(.iface t4 v4)]:=hz3.put (.int .i64 i0) (.int .i64 i1) (.string s2) (.string s3) (.iface t4 v4);have y0:(((((w3.setCell ⟨w.heap.size,0,none⟩ (.int .i64 i0)).setCell ⟨w.heap.size,1,none⟩ (.int .i64 i1)).setCell ⟨w.heap.size,2,none⟩ (.string s2)).setCell ⟨w.heap.size,3,none⟩ (.string s3)).setCell ⟨w.heap.size,4,none⟩ (.iface t4 v4)).cell? ⟨w.heap.size,0,none⟩=some (.int .i64 i0):=hR.cell 0;have y1:(((((w3.setCell ⟨w.heap.size,0,none⟩ (.int .i64 i0)).setCell ⟨w.heap.size,1,none⟩ (.int .i64 i1)).setCell ⟨w.heap.size,2,none⟩ (.string s2)).setCell ⟨w.heap.size,3,none⟩ (.string s3)).setCell ⟨w.heap.size,4,none⟩ (.iface t4 v4)).cell? ⟨w.heap.size,1,none⟩=some (.int .i64 i1):=hR.cell 1;have y2:(((((w3.setCell ⟨w.heap.size,0,none⟩ (.int .i64 i0)).setCell ⟨w.heap.size,1,none⟩ (.int .i64 i1)).setCell ⟨w.heap.size,2,none⟩ (.string s2)).setCell ⟨w.heap.size,3,none⟩ (.string s3)).setCell ⟨w.heap.size,4,none⟩ (.iface t4 v4)).cell? ⟨w.heap.size,2,none⟩=some (.string s2):=hR.cell 2;have y3:(((((w3.setCell ⟨w.heap.size,0,none⟩ (.int .i64 i0)).setCell ⟨w.heap.size,1,none⟩ (.int .i64 i1)).setCell ⟨w.heap.size,2,none⟩ (.string s2)).setCell ⟨w.heap.size,3,none⟩ (.string s3)).setCell ⟨w.heap.size,4,none⟩ (.iface t4 v4)).cell? ⟨w.heap.size,3,none⟩=some (.string s3):=hR.cell 3;have y4:(((((w3.setCell ⟨w.heap.size,0,none⟩ (.int .i64 i0)).setCell ⟨w.heap.size,1,none⟩ (.int .i64 i1)).setCell ⟨w.heap.size,2,none⟩ (.string s2)).setCell ⟨w.heap.size,3,none⟩ (.string s3)).setCell ⟨w.heap.size,4,none⟩ (.iface t4 v4)).cell? ⟨w.heap.size,4,none⟩=some (.iface t4 v4):=hR.cell 4;have HR:=hid hR;have HX:=hid hx;clear hR hz3 hx;go_wp2;refine bodyPost_ret (v:=.tuple #[.agg #[(.int .i64 i0),(.int .i64 i1),(.string s2),(.string s3),(.iface t4 v4)],.bool r.isSome]) (by simp[results,Tryz.results124,go_sem,y0,y1,y2,y3,y4];try rfl) rfl ?_;exact⟨⟨_,rfl,⟨_,_,_,_,_,rfl,.inr ⟨_,_,rfl⟩⟩,HX.out⟩,HR.out.ps,hb3,HR.out.fr⟩
theorem FQ{toks:List Tok}(hw:Wf toks)(pb tb cap a:Nat)(w:World)(ha:a<toks.length)(hP:PS toks pb tb cap a 0 w.heap)(h0:cC toks a [117,115,101]=false/\cC toks a [112,117,98]=true) :
 Calls Tryz.prog 124 #[.pointer (some ⟨pb,0,none⟩)] w (kG toks pb tb cap (kD toks 2 (a+1)).1 (kD toks 2 (a+1)).2 w):=by
 have HT0:Hid (bB (tx toks a) ⟨#[117,115,101]⟩=false):=hid ((aR toks a [117,115,101]).symm.trans h0.1);have HT1:Hid (bB (tx toks a) ⟨#[112,117,98]⟩=true):=hid ((aR toks a [112,117,98]).symm.trans h0.2);have HX1:=hid (hw.next_isT ha h0.2);have HZ0:=hid (RS.start hP #[.int .i64 0,.int .i64 0,.string ⟨#[]⟩,.string ⟨#[]⟩,.nilIface]);have HL:=hid hw.le;have HW:=hid hw;generalize hsp:kD toks 2 (a+1)=z;obtain⟨b,r⟩:=z;have HSP:=hid hsp;clear hP hw hsp h0;go_enter Tryz.func124,Tryz.ntmps124;go_wp2_with fail
 refine (dF toks pb tb cap a 0 _ _ HZ0.out.ps ha HT0.out).mono ?_;rintro e w1⟨rfl,hP1,hF1⟩;have HZ1:=hid (HZ0.out.call hF1 hP1);clear hP1 hF1;go_wp2_with fail
 refine (aT toks pb tb cap a 0 _ _ HZ1.out.ps ha HL.out HT1.out).mono ?_;rintro e w2⟨rfl,hP1,hF1⟩;have HZ:=hid (HZ1.out.call hF1 hP1);clear hP1 hF1;go_wp2_with fail
 refine (Dy HW.out pb tb cap 2 (a+1) _ HX1.out HZ.out.ps).mono ?_;rw[HSP.out];rintro e w3⟨⟨v,rfl,⟨i0,i1,s2,s3,x4,rfl,hi⟩,hx⟩,hP3,hb3,hF3⟩;rcases hi with rfl|⟨t4,v4,rfl⟩
 . have hz3:=HZ.out.call hF3 hP3
   clear hP3 hF3;have r0:w3.cell? ⟨w.heap.size,0,none⟩=some (.int .i64 0):=hz3.cell 0;have rf0:=hz3.f 0;have r1:w3.cell? ⟨w.heap.size,1,none⟩=some (.int .i64 0):=hz3.cell 1;have rf1:=hz3.f 1;have r2:w3.cell? ⟨w.heap.size,2,none⟩=some (.string ⟨#[]⟩):=hz3.cell 2;have rf2:=hz3.f 2;have r3:w3.cell? ⟨w.heap.size,3,none⟩=some (.string ⟨#[]⟩):=hz3.cell 3;have rf3:=hz3.f 3;have r4:w3.cell? ⟨w.heap.size,4,none⟩=some .nilIface:=hz3.cell 4;have rf4:=hz3.f 4;have hR:RS toks pb tb cap w (((((w3.setCell ⟨w.heap.size,0,none⟩ (.int .i64 i0)).setCell ⟨w.heap.size,1,none⟩ (.int .i64 i1)).setCell ⟨w.heap.size,2,none⟩ (.string s2)).setCell ⟨w.heap.size,3,none⟩ (.string s3)).setCell ⟨w.heap.size,4,none⟩ .nilIface) _ #[(.int .i64 i0),(.int .i64 i1),(.string s2),(.string s3),.nilIface]:=hz3.put (.int .i64 i0) (.int .i64 i1) (.string s2) (.string s3) .nilIface;have y0:(((((w3.setCell ⟨w.heap.size,0,none⟩ (.int .i64 i0)).setCell ⟨w.heap.size,1,none⟩ (.int .i64 i1)).setCell ⟨w.heap.size,2,none⟩ (.string s2)).setCell ⟨w.heap.size,3,none⟩ (.string s3)).setCell ⟨w.heap.size,4,none⟩ .nilIface).cell? ⟨w.heap.size,0,none⟩=some (.int .i64 i0):=hR.cell 0;have y1:(((((w3.setCell ⟨w.heap.size,0,none⟩ (.int .i64 i0)).setCell ⟨w.heap.size,1,none⟩ (.int .i64 i1)).setCell ⟨w.heap.size,2,none⟩ (.string s2)).setCell ⟨w.heap.size,3,none⟩ (.string s3)).setCell ⟨w.heap.size,4,none⟩ .nilIface).cell? ⟨w.heap.size,1,none⟩=some (.int .i64 i1):=hR.cell 1;have y2:(((((w3.setCell ⟨w.heap.size,0,none⟩ (.int .i64 i0)).setCell ⟨w.heap.size,1,none⟩ (.int .i64 i1)).setCell ⟨w.heap.size,2,none⟩ (.string s2)).setCell ⟨w.heap.size,3,none⟩ (.string s3)).setCell ⟨w.heap.size,4,none⟩ .nilIface).cell? ⟨w.heap.size,2,none⟩=some (.string s2):=hR.cell 2;have y3:(((((w3.setCell ⟨w.heap.size,0,none⟩ (.int .i64 i0)).setCell ⟨w.heap.size,1,none⟩ (.int .i64 i1)).setCell ⟨w.heap.size,2,none⟩ (.string s2)).setCell ⟨w.heap.size,3,none⟩ (.string s3)).setCell ⟨w.heap.size,4,none⟩ .nilIface).cell? ⟨w.heap.size,3,none⟩=some (.string s3):=hR.cell 3;have y4:(((((w3.setCell ⟨w.heap.size,0,none⟩ (.int .i64 i0)).setCell ⟨w.heap.size,1,none⟩ (.int .i64 i1)).setCell ⟨w.heap.size,2,none⟩ (.string s2)).setCell ⟨w.heap.size,3,none⟩ (.string s3)).setCell ⟨w.heap.size,4,none⟩ .nilIface).cell? ⟨w.heap.size,4,none⟩=some .nilIface:=hR.cell 4;have HR:=hid hR;have HX:=hid hx;clear hR hz3 hx;go_wp2;refine bodyPost_ret (v:=.tuple #[.agg #[(.int .i64 i0),(.int .i64 i1),(.string s2),(.string s3),.nilIface],.bool r.isSome]) (by simp[results,Tryz.results124,go_sem,y0,y1,y2,y3,y4];try rfl) rfl ?_;exact⟨⟨_,rfl,⟨_,_,_,_,_,rfl,.inl rfl⟩,HX.out⟩,HR.out.ps,hb3,HR.out.fr⟩
 . have hz3:=HZ.out.call hF3 hP3
   clear hP3 hF3;have r0:w3.cell? ⟨w.heap.size,0,none⟩=some (.int .i64 0):=hz3.cell 0;have rf0:=hz3.f 0;have r1:w3.cell? ⟨w.heap.size,1,none⟩=some (.int .i64 0):=hz3.cell 1;have rf1:=hz3.f 1;have r2:w3.cell? ⟨w.heap.size,2,none⟩=some (.string ⟨#[]⟩):=hz3.cell 2;have rf2:=hz3.f 2;have r3:w3.cell? ⟨w.heap.size,3,none⟩=some (.string ⟨#[]⟩):=hz3.cell 3;have rf3:=hz3.f 3;have r4:w3.cell? ⟨w.heap.size,4,none⟩=some .nilIface:=hz3.cell 4;have rf4:=hz3.f 4;have hR:RS toks pb tb cap w (((((w3.setCell ⟨w.heap.size,0,none⟩ (.int .i64 i0)).setCell ⟨w.heap.size,1,none⟩ (.int .i64 i1)).setCell ⟨w.heap.size,2,none⟩ (.string s2)).setCell ⟨w.heap.size,3,none⟩ (.string s3)).setCell ⟨w.heap.size,4,none⟩ (.iface t4 v4)) _ #[(.int .i64 i0),(.int .i64 i1),(.string s2),(.string s3),(.iface t4 v4)]:=hz3.put (.int .i64 i0) (.int .i64 i1) (.string s2) (.string s3) (.iface t4 v4);have y0:(((((w3.setCell ⟨w.heap.size,0,none⟩ (.int .i64 i0)).setCell ⟨w.heap.size,1,none⟩ (.int .i64 i1)).setCell ⟨w.heap.size,2,none⟩ (.string s2)).setCell ⟨w.heap.size,3,none⟩ (.string s3)).setCell ⟨w.heap.size,4,none⟩ (.iface t4 v4)).cell? ⟨w.heap.size,0,none⟩=some (.int .i64 i0):=hR.cell 0;have y1:(((((w3.setCell ⟨w.heap.size,0,none⟩ (.int .i64 i0)).setCell ⟨w.heap.size,1,none⟩ (.int .i64 i1)).setCell ⟨w.heap.size,2,none⟩ (.string s2)).setCell ⟨w.heap.size,3,none⟩ (.string s3)).setCell ⟨w.heap.size,4,none⟩ (.iface t4 v4)).cell? ⟨w.heap.size,1,none⟩=some (.int .i64 i1):=hR.cell 1;have y2:(((((w3.setCell ⟨w.heap.size,0,none⟩ (.int .i64 i0)).setCell ⟨w.heap.size,1,none⟩ (.int .i64 i1)).setCell ⟨w.heap.size,2,none⟩ (.string s2)).setCell ⟨w.heap.size,3,none⟩ (.string s3)).setCell ⟨w.heap.size,4,none⟩ (.iface t4 v4)).cell? ⟨w.heap.size,2,none⟩=some (.string s2):=hR.cell 2;have y3:(((((w3.setCell ⟨w.heap.size,0,none⟩ (.int .i64 i0)).setCell ⟨w.heap.size,1,none⟩ (.int .i64 i1)).setCell ⟨w.heap.size,2,none⟩ (.string s2)).setCell ⟨w.heap.size,3,none⟩ (.string s3)).setCell ⟨w.heap.size,4,none⟩ (.iface t4 v4)).cell? ⟨w.heap.size,3,none⟩=some (.string s3):=hR.cell 3;have y4:(((((w3.setCell ⟨w.heap.size,0,none⟩ (.int .i64 i0)).setCell ⟨w.heap.size,1,none⟩ (.int .i64 i1)).setCell ⟨w.heap.size,2,none⟩ (.string s2)).setCell ⟨w.heap.size,3,none⟩ (.string s3)).setCell ⟨w.heap.size,4,none⟩ (.iface t4 v4)).cell? ⟨w.heap.size,4,none⟩=some (.iface t4 v4):=hR.cell 4;have HR:=hid hR;have HX:=hid hx;clear hR hz3 hx;go_wp2;refine bodyPost_ret (v:=.tuple #[.agg #[(.int .i64 i0),(.int .i64 i1),(.string s2),(.string s3),(.iface t4 v4)],.bool r.isSome]) (by simp[results,Tryz.results124,go_sem,y0,y1,y2,y3,y4];try rfl) rfl ?_;exact⟨⟨_,rfl,⟨_,_,_,_,_,rfl,.inr ⟨_,_,rfl⟩⟩,HX.out⟩,HR.out.ps,hb3,HR.out.fr⟩
theorem FT{toks:List Tok}(hw:Wf toks)(pb tb cap a:Nat)(w:World)(ha:a<toks.length)(hP:PS toks pb tb cap a 0 w.heap)(h0:cC toks a [117,115,101]=false/\cC toks a [112,117,98]=false) :
 Calls Tryz.prog 124 #[.pointer (some ⟨pb,0,none⟩)] w (kG toks pb tb cap (kD toks 1 a).1 (kD toks 1 a).2 w):=by
 have HT0:Hid (bB (tx toks a) ⟨#[117,115,101]⟩=false):=hid ((aR toks a [117,115,101]).symm.trans h0.1);have HT1:Hid (bB (tx toks a) ⟨#[112,117,98]⟩=false):=hid ((aR toks a [112,117,98]).symm.trans h0.2);have HZ0:=hid (RS.start hP #[.int .i64 0,.int .i64 0,.string ⟨#[]⟩,.string ⟨#[]⟩,.nilIface]);have HL:=hid hw.le;have HW:=hid hw;generalize hsp:kD toks 1 a=z;obtain⟨b,r⟩:=z;have HSP:=hid hsp;clear hP hw hsp h0;go_enter Tryz.func124,Tryz.ntmps124;go_wp2_with fail
 refine (dF toks pb tb cap a 0 _ _ HZ0.out.ps ha HT0.out).mono ?_;rintro e w1⟨rfl,hP1,hF1⟩;have HZ1:=hid (HZ0.out.call hF1 hP1);clear hP1 hF1;go_wp2_with fail
 refine (dF toks pb tb cap a 0 _ _ HZ1.out.ps ha HT1.out).mono ?_;rintro e w2⟨rfl,hP1,hF1⟩;have HZ:=hid (HZ1.out.call hF1 hP1);clear hP1 hF1;go_wp2_with fail
 refine (Dy HW.out pb tb cap 1 a _ ha HZ.out.ps).mono ?_;rw[HSP.out];rintro e w3⟨⟨v,rfl,⟨i0,i1,s2,s3,x4,rfl,hi⟩,hx⟩,hP3,hb3,hF3⟩;rcases hi with rfl|⟨t4,v4,rfl⟩
 . have hz3:=HZ.out.call hF3 hP3
   clear hP3 hF3;have r0:w3.cell? ⟨w.heap.size,0,none⟩=some (.int .i64 0):=hz3.cell 0;have rf0:=hz3.f 0;have r1:w3.cell? ⟨w.heap.size,1,none⟩=some (.int .i64 0):=hz3.cell 1;have rf1:=hz3.f 1;have r2:w3.cell? ⟨w.heap.size,2,none⟩=some (.string ⟨#[]⟩):=hz3.cell 2;have rf2:=hz3.f 2;have r3:w3.cell? ⟨w.heap.size,3,none⟩=some (.string ⟨#[]⟩):=hz3.cell 3;have rf3:=hz3.f 3;have r4:w3.cell? ⟨w.heap.size,4,none⟩=some .nilIface:=hz3.cell 4;have rf4:=hz3.f 4;have hR:RS toks pb tb cap w (((((w3.setCell ⟨w.heap.size,0,none⟩ (.int .i64 i0)).setCell ⟨w.heap.size,1,none⟩ (.int .i64 i1)).setCell ⟨w.heap.size,2,none⟩ (.string s2)).setCell ⟨w.heap.size,3,none⟩ (.string s3)).setCell ⟨w.heap.size,4,none⟩ .nilIface) _ #[(.int .i64 i0),(.int .i64 i1),(.string s2),(.string s3),.nilIface]:=hz3.put (.int .i64 i0) (.int .i64 i1) (.string s2) (.string s3) .nilIface;have y0:(((((w3.setCell ⟨w.heap.size,0,none⟩ (.int .i64 i0)).setCell ⟨w.heap.size,1,none⟩ (.int .i64 i1)).setCell ⟨w.heap.size,2,none⟩ (.string s2)).setCell ⟨w.heap.size,3,none⟩ (.string s3)).setCell ⟨w.heap.size,4,none⟩ .nilIface).cell? ⟨w.heap.size,0,none⟩=some (.int .i64 i0):=hR.cell 0;have y1:(((((w3.setCell ⟨w.heap.size,0,none⟩ (.int .i64 i0)).setCell ⟨w.heap.size,1,none⟩ (.int .i64 i1)).setCell ⟨w.heap.size,2,none⟩ (.string s2)).setCell ⟨w.heap.size,3,none⟩ (.string s3)).setCell ⟨w.heap.size,4,none⟩ .nilIface).cell? ⟨w.heap.size,1,none⟩=some (.int .i64 i1):=hR.cell 1;have y2:(((((w3.setCell ⟨w.heap.size,0,none⟩ (.int .i64 i0)).setCell ⟨w.heap.size,1,none⟩ (.int .i64 i1)).setCell ⟨w.heap.size,2,none⟩ (.string s2)).setCell ⟨w.heap.size,3,none⟩ (.string s3)).setCell ⟨w.heap.size,4,none⟩ .nilIface).cell? ⟨w.heap.size,2,none⟩=some (.string s2):=hR.cell 2;have y3:(((((w3.setCell ⟨w.heap.size,0,none⟩ (.int .i64 i0)).setCell ⟨w.heap.size,1,none⟩ (.int .i64 i1)).setCell ⟨w.heap.size,2,none⟩ (.string s2)).setCell ⟨w.heap.size,3,none⟩ (.string s3)).setCell ⟨w.heap.size,4,none⟩ .nilIface).cell? ⟨w.heap.size,3,none⟩=some (.string s3):=hR.cell 3;have y4:(((((w3.setCell ⟨w.heap.size,0,none⟩ (.int .i64 i0)).setCell ⟨w.heap.size,1,none⟩ (.int .i64 i1)).setCell ⟨w.heap.size,2,none⟩ (.string s2)).setCell ⟨w.heap.size,3,none⟩ (.string s3)).setCell ⟨w.heap.size,4,none⟩ .nilIface).cell? ⟨w.heap.size,4,none⟩=some .nilIface:=hR.cell 4;have HR:=hid hR;have HX:=hid hx;clear hR hz3 hx;go_wp2;refine bodyPost_ret (v:=.tuple #[.agg #[(.int .i64 i0),(.int .i64 i1),(.string s2),(.string s3),.nilIface],.bool r.isSome]) (by simp[results,Tryz.results124,go_sem,y0,y1,y2,y3,y4];try rfl) rfl ?_;exact⟨⟨_,rfl,⟨_,_,_,_,_,rfl,.inl rfl⟩,HX.out⟩,HR.out.ps,hb3,HR.out.fr⟩
 . have hz3:=HZ.out.call hF3 hP3
   clear hP3 hF3;have r0:w3.cell? ⟨w.heap.size,0,none⟩=some (.int .i64 0):=hz3.cell 0;have rf0:=hz3.f 0;have r1:w3.cell? ⟨w.heap.size,1,none⟩=some (.int .i64 0):=hz3.cell 1;have rf1:=hz3.f 1;have r2:w3.cell? ⟨w.heap.size,2,none⟩=some (.string ⟨#[]⟩):=hz3.cell 2;have rf2:=hz3.f 2;have r3:w3.cell? ⟨w.heap.size,3,none⟩=some (.string ⟨#[]⟩):=hz3.cell 3;have rf3:=hz3.f 3;have r4:w3.cell? ⟨w.heap.size,4,none⟩=some .nilIface:=hz3.cell 4;have rf4:=hz3.f 4;have hR:RS toks pb tb cap w (((((w3.setCell ⟨w.heap.size,0,none⟩ (.int .i64 i0)).setCell ⟨w.heap.size,1,none⟩ (.int .i64 i1)).setCell ⟨w.heap.size,2,none⟩ (.string s2)).setCell ⟨w.heap.size,3,none⟩ (.string s3)).setCell ⟨w.heap.size,4,none⟩ (.iface t4 v4)) _ #[(.int .i64 i0),(.int .i64 i1),(.string s2),(.string s3),(.iface t4 v4)]:=hz3.put (.int .i64 i0) (.int .i64 i1) (.string s2) (.string s3) (.iface t4 v4);have y0:(((((w3.setCell ⟨w.heap.size,0,none⟩ (.int .i64 i0)).setCell ⟨w.heap.size,1,none⟩ (.int .i64 i1)).setCell ⟨w.heap.size,2,none⟩ (.string s2)).setCell ⟨w.heap.size,3,none⟩ (.string s3)).setCell ⟨w.heap.size,4,none⟩ (.iface t4 v4)).cell? ⟨w.heap.size,0,none⟩=some (.int .i64 i0):=hR.cell 0;have y1:(((((w3.setCell ⟨w.heap.size,0,none⟩ (.int .i64 i0)).setCell ⟨w.heap.size,1,none⟩ (.int .i64 i1)).setCell ⟨w.heap.size,2,none⟩ (.string s2)).setCell ⟨w.heap.size,3,none⟩ (.string s3)).setCell ⟨w.heap.size,4,none⟩ (.iface t4 v4)).cell? ⟨w.heap.size,1,none⟩=some (.int .i64 i1):=hR.cell 1;have y2:(((((w3.setCell ⟨w.heap.size,0,none⟩ (.int .i64 i0)).setCell ⟨w.heap.size,1,none⟩ (.int .i64 i1)).setCell ⟨w.heap.size,2,none⟩ (.string s2)).setCell ⟨w.heap.size,3,none⟩ (.string s3)).setCell ⟨w.heap.size,4,none⟩ (.iface t4 v4)).cell? ⟨w.heap.size,2,none⟩=some (.string s2):=hR.cell 2;have y3:(((((w3.setCell ⟨w.heap.size,0,none⟩ (.int .i64 i0)).setCell ⟨w.heap.size,1,none⟩ (.int .i64 i1)).setCell ⟨w.heap.size,2,none⟩ (.string s2)).setCell ⟨w.heap.size,3,none⟩ (.string s3)).setCell ⟨w.heap.size,4,none⟩ (.iface t4 v4)).cell? ⟨w.heap.size,3,none⟩=some (.string s3):=hR.cell 3;have y4:(((((w3.setCell ⟨w.heap.size,0,none⟩ (.int .i64 i0)).setCell ⟨w.heap.size,1,none⟩ (.int .i64 i1)).setCell ⟨w.heap.size,2,none⟩ (.string s2)).setCell ⟨w.heap.size,3,none⟩ (.string s3)).setCell ⟨w.heap.size,4,none⟩ (.iface t4 v4)).cell? ⟨w.heap.size,4,none⟩=some (.iface t4 v4):=hR.cell 4;have HR:=hid hR;have HX:=hid hx;clear hR hz3 hx;go_wp2;refine bodyPost_ret (v:=.tuple #[.agg #[(.int .i64 i0),(.int .i64 i1),(.string s2),(.string s3),(.iface t4 v4)],.bool r.isSome]) (by simp[results,Tryz.results124,go_sem,y0,y1,y2,y3,y4];try rfl) rfl ?_;exact⟨⟨_,rfl,⟨_,_,_,_,_,rfl,.inr ⟨_,_,rfl⟩⟩,HX.out⟩,HR.out.ps,hb3,HR.out.fr⟩
theorem tI{toks:List Tok}(hw:Wf toks)(pb tb cap a:Nat)(w:World)(ha:a<toks.length)(hP:PS toks pb tb cap a 0 w.heap) :
 Calls Tryz.prog 124 #[.pointer (some ⟨pb,0,none⟩)] w (kG toks pb tb cap (mG toks a).1 (mG toks a).2 w):=by
 cases h0:cC toks a [117,115,101] with
 | true=>simpa[mG,h0] using FP hw pb tb cap a w ha hP h0
 | false=>
  cases h1:cC toks a [112,117,98] with
  | true=>simpa[mG,h0,h1] using FQ hw pb tb cap a w ha hP ⟨h0,h1⟩
  | false=>simpa[mG,h0,h1] using FT hw pb tb cap a w ha hP ⟨h0,h1⟩
def jM(toks:List Tok):Nat->Nat->List It×Option Nat
 | 0,_=>([],none)
 | f+1,a=>if bB (tx toks a) ⟨#[]⟩ then ([],none) else
  match mG toks a with
  | (b,none)=>([],some b)
  | (b,some i)=>(i::(jM toks f b).1,(jM toks f b).2)
def iB(toks:List Tok):List It×Option Nat:=jM toks toks.length 0
def cU:Option Nat->Value
 | none=>.int .i64 (-1)
 | some b=>.int .i64 b
theorem Dz{toks:List Tok}(hw:Wf toks){k a b:Nat}{i:It}(h:kD toks k a=(b,some i)):a<b:=by
 unfold kD at h;split at h
 . split at h
   . split at h
     . split at h
       . split at h
         . split at h
           . cases h
           . rename_i c x he
             have:=FO hw (a+5)
             rw[he] at this;split at h
             . cases h;simp at this;omega
             . cases h
         . cases h
       . cases h
     . cases h
   . cases h
 . cases h
theorem Jj{toks:List Tok}{a b:Nat}{i:It}(h:nZ toks a=(b,some i)):a<b:=by
 unfold nZ at h;split at h
 . split at h
   . cases h;omega
   . cases h
 . cases h
theorem FU{toks:List Tok}(hw:Wf toks){a b:Nat}{i:It}(h:mG toks a=(b,some i)):a<b:=by
 unfold mG at h;split at h
 . have:=Jj h;omega
 . split at h
   . have:=Dz hw h;omega
   . exact Dz hw h
theorem jF{w w':World}{B:Nat}{e:TypeId}{size:Nat}{v:Value}{n:Nat}{xs:List Value}(h:w.ownsRow B e size v n xs)(hk:∀g,B<=g->g<w.heap.size->w'.heap[g]? = w.heap[g]?):w'.ownsRow B e size v n xs:=by
 obtain⟨hl,h|⟨g,cap,cur,hv,hb,hg,h1,h2,h3,h4⟩⟩:=h
 . exact⟨hl,.inl h⟩
 . exact⟨hl,.inr ⟨g,cap,cur,hv,hb,(hk g hb (aB hg)).trans hg,h1,h2,h3,h4⟩⟩
structure TS (toks:List Tok) (tb cap:Nat) (w wr:World) (a:Nat) (v:Value) (n:Nat) (xs:List Value) (fault:Int):Prop where
 tl:tb<w.heap.size
 ps:PS toks (w.heap.size+1) tb cap a 0 wr.heap
 bl:Below w.heap.size w wr
 rb:wr.heap[w.heap.size]? = some (.cells #[.slice none 0 0,.int .i64 0] 87)
 tr:wr.heap[w.heap.size+1+1]? = some (.cells #[v,.int .i64 fault] 87)
 own:wr.ownsRow (w.heap.size+3) 137 5 v n xs
theorem TS.start{toks:List Tok}{tb cap:Nat}{w:World}(ht:∃cur,w.heap[tb]? = some (.cells cur 121)/\cur.toList.take (3*toks.length)=aV toks) :
 TS toks tb cap w (((w.alloc (.cells #[.slice none 0 0,.int .i64 0] 87)).alloc (.cells #[.slice (some ⟨tb,0,none⟩) toks.length cap,.int .i64 0,.int .i64 0] 224)).alloc (.cells #[.slice none 0 0,.int .i64 (-1)] 87)) 0 (.slice none 0 0) 0 [] (-1):=by
 obtain⟨cur,hc,hcc⟩:=ht;have hlt:=aB hc;have e1:(w.alloc (.cells #[.slice none 0 0,.int .i64 0] 87)).heap.size=w.heap.size+1:=by simp
 have e2:((w.alloc (.cells #[.slice none 0 0,.int .i64 0] 87)).alloc (.cells #[.slice (some ⟨tb,0,none⟩) toks.length cap,.int .i64 0,.int .i64 0] 224)).heap.size=w.heap.size+1+1:=by simp
 refine⟨hlt,⟨by omega,?_,cur,aC _ (aC _ (aC _ hc)),hcc⟩,((((Below.refl _ _).alloc (Nat.le_refl _) _).alloc (by omega) _).alloc (by omega) _),aC _ (aC _ (aI _ _)),?_,World.ownsRow_nil _ _ _ _⟩
 . refine aC _ ?_
   have:=aI (w.alloc (.cells #[.slice none 0 0,.int .i64 0] 87)) (.cells #[.slice (some ⟨tb,0,none⟩) toks.length cap,.int .i64 0,.int .i64 0] 224)
   rw[e1] at this;exact this
 . have:=aI ((w.alloc (.cells #[.slice none 0 0,.int .i64 0] 87)).alloc (.cells #[.slice (some ⟨tb,0,none⟩) toks.length cap,.int .i64 0,.int .i64 0] 224)) (.cells #[.slice none 0 0,.int .i64 (-1)] 87)
   rw[e2] at this;exact this
section
variable {toks:List Tok} {tb cap:Nat} {w wr:World} {a:Nat} {v:Value} {n:Nat} {xs:List Value} {fault:Int}
theorem TS.call(h:TS toks tb cap w wr a v n xs fault){w':World}{b:Nat}(hf:Fr [w.heap.size+1] wr w')(hp:PS toks (w.heap.size+1) tb cap b 0 w'.heap):TS toks tb cap w w' b v n xs fault:=
 ⟨h.tl,hp,⟨hf.os.trans h.bl.os,hf.tape.trans h.bl.tape,hf.output.trans h.bl.output,Nat.le_trans h.bl.size hf.size,fun k hk=>(hf.block k (by have:=h.bl.size;omega) (by simp;omega)).trans (h.bl.block k hk)⟩,
  hf.heap h.rb (by simp),hf.heap h.tr (by simp),jF h.own fun g hg hlt=>hf.block g hlt (by simp;omega)⟩
theorem TS.alloc(h:TS toks tb cap w wr a v n xs fault)(o:Obj):TS toks tb cap w (wr.alloc o) a v n xs fault:=
 ⟨h.tl,h.ps.below ((Below.refl _ _).alloc (Nat.le_refl _) _),h.bl.alloc h.bl.size _,aC _ h.rb,aC _ h.tr,h.own.alloc _⟩
theorem TS.faulty(h:TS toks tb cap w wr a v n xs fault)(z:Int):TS toks tb cap w (wr.setCell ⟨w.heap.size+1+1,1,none⟩ (.int .i64 z)) a v n xs z:=
 ⟨h.tl,h.ps.other (by omega) (by have:=h.tl;omega) _,h.bl.setCell (p:=⟨w.heap.size+1+1,1,none⟩) (by show w.heap.size<=w.heap.size+1+1;omega) _,(aD (by omega) _).trans h.rb,aH (i:=1) h.tr _,jF h.own fun g hg hlt=>aD (by omega) _⟩
theorem TS.put(h:TS toks tb cap w wr a v n xs fault){w':World}{v':Value}{m:Nat}{ys:List Value}(hown:w'.ownsRow (w.heap.size+3) 137 5 v' m ys)(hg:wr.grownBy w' v.ownBlock) :
 TS toks tb cap w (w'.setCell ⟨w.heap.size+1+1,0,none⟩ v') a v' m ys fault:=by
 have hlt:=fun k hk=>(h.own.lt k hk).1;have hsz:=aB h.tr;have hb:∀k,k<w.heap.size+3->w'.heap[k]? = wr.heap[k]?:=fun k hk=>hg.block k (by omega) fun e=>by have:=hlt k e.symm;omega
 obtain⟨cur,hc,hcc⟩:=h.ps.t;have hb2:Below w.heap.size w w':=h.bl.grown hg h.bl.size (fun k hk=>by have:=hlt k hk;omega);refine⟨h.tl,?_,hb2.setCell (p:=⟨w.heap.size+1+1,0,none⟩) (by show w.heap.size<=w.heap.size+1+1;omega) _,(aD (by omega) _).trans ((hb _ (by omega)).trans h.rb),aH (i:=0) ((hb _ (by omega)).trans h.tr) _,jF hown fun g hg hlt=>aD (by omega) _⟩;exact PS.other ⟨h.ps.ne,(hb _ (by omega)).trans h.ps.p,cur,(hb _ (by have:=h.tl;omega)).trans hc,hcc⟩ (by omega) (by have:=h.tl;omega) _
theorem TS.shape(h:TS toks tb cap w wr a v n xs fault):∃ao m c,v = .slice ao m c:=by
 obtain⟨_,⟨h,_⟩|⟨g,c,_,h,_⟩⟩:=h.own
 . exact⟨none,0,0,h⟩
 . exact⟨_,_,_,h⟩
theorem TS.setR(h:TS toks tb cap w wr a v n xs fault)(u z:Value):((wr.setCell ⟨w.heap.size,0,none⟩ u).setCell ⟨w.heap.size,1,none⟩ z).heap[w.heap.size]? = some (.cells #[u,z] 87)/\
 ((wr.setCell ⟨w.heap.size,0,none⟩ u).setCell ⟨w.heap.size,1,none⟩ z).ownsRow w.heap.size 137 5 v n xs/\Below w.heap.size w ((wr.setCell ⟨w.heap.size,0,none⟩ u).setCell ⟨w.heap.size,1,none⟩ z):=by
 have h1:(wr.setCell ⟨w.heap.size,0,none⟩ u).heap[w.heap.size]? = some (.cells #[u,.int .i64 0] 87):=aH (i:=0) h.rb u;refine⟨aH (i:=1) h1 z,?_,(h.bl.setCell (p:=⟨w.heap.size,0,none⟩) (Nat.le_refl _) _).setCell (p:=⟨w.heap.size,1,none⟩) (Nat.le_refl _) _⟩;have h2:=jF h.own (w':=(wr.setCell ⟨w.heap.size,0,none⟩ u).setCell ⟨w.heap.size,1,none⟩ z) fun g hg hlt=>(aD (by omega) _).trans (aD (by omega) _);obtain⟨hl,h2|⟨g,c,cur,hv,hb,hr⟩⟩:=h2
 . exact⟨hl,.inl h2⟩
 . exact⟨hl,.inr ⟨g,c,cur,hv,by omega,hr⟩⟩
theorem TS.r0(h:TS toks tb cap w wr a v n xs fault):wr.cell? ⟨w.heap.size,0,none⟩=some (.slice none 0 0):=aA h.rb
theorem TS.r1(h:TS toks tb cap w wr a v n xs fault):wr.cell? ⟨w.heap.size,1,none⟩=some (.int .i64 0):=aA h.rb
theorem TS.rf(h:TS toks tb cap w wr a v n xs fault)(i:Nat):wr.frozen? ⟨w.heap.size,i,none⟩=false:=aE h.rb
theorem TS.t0(h:TS toks tb cap w wr a v n xs fault):wr.cell? ⟨w.heap.size+1+1,0,none⟩=some v:=aA h.tr
theorem TS.t1(h:TS toks tb cap w wr a v n xs fault):wr.cell? ⟨w.heap.size+1+1,1,none⟩=some (.int .i64 fault):=aA h.tr
theorem TS.tf(h:TS toks tb cap w wr a v n xs fault)(i:Nat):wr.frozen? ⟨w.heap.size+1+1,i,none⟩=false:=aE h.tr
end
end Go.Proofs.YthibodlojlkppaaGreatDoor
namespace Go.Proofs.YthibodlojlkppaaGreatDoor
structure K where
 kind:Nat
 file:ByteArray
 name:ByteArray
variable [DecidableEq K]
abbrev Lk:=ByteArray ⊕ K
abbrev Lk.src(f:ByteArray):Lk:=.inl f
abbrev Lk.slot(k:K):Lk:=.inr k
variable [LawfulBEq Lk]
abbrev OO(V:Type):=V ⊕ Unit ⊕ ByteArray ⊕ K
def O5(V:Type):OO V->Type
 | .inl _=>Empty
 | .inr (.inl _)=>Empty
 | .inr (.inr (.inl _))=>Option ByteArray
 | .inr (.inr (.inr _))=>V
structure Prog (V:Type) where
 op:OO V
 next:O5 V op->Prog V
abbrev Prog.ret{V:Type}(v:V):Prog V:=⟨.inl v,Empty.elim⟩
abbrev Prog.fail{V:Type}:Prog V:=⟨.inr (.inl ()),Empty.elim⟩
abbrev Prog.look{V:Type}(f:ByteArray)(c:Option ByteArray->Prog V):Prog V:=⟨.inr (.inr (.inl f)),c⟩
abbrev Prog.get{V:Type}(k:K)(c:V->Prog V):Prog V:=⟨.inr (.inr (.inr k)),c⟩
structure bU (V:Type) where
 act:Bool
 ver:Option Nat
 used:Nat
 val:Option V
structure St (V:Type) where
 rev:Nat
 files:ByteArray->Option ByteArray
 src:ByteArray->Option Nat
 sl:K->Option (bU V)
 kept:List K
 began:List K
 uses:Nat
abbrev Out(α:Type):=Except K α
abbrev Out.cyc{α:Type}(c:K):Out α:=.error c
abbrev MC(V α:Type):=Option (Out α×St V)
abbrev eF(V:Type):=K->St V->MC V Unit
def cD:Nat:=1099511627776
def j9:Nat:=18446744073709551616
section
variable {V:Type}
def St.put(st:St V)(k:K)(m:bU V):St V:={st with sl:=fun j=>if j=k then some m else st.sl j}
def p7:bU V:=⟨false,none,0,none⟩
def St.find(st:St V)(k:K):St V:=
 match st.sl k with
 | some _=>st
 | none=>st.put k p7
def St.source(st:St V)(f:ByteArray):St V:=
 match st.src f with
 | some _=>st
 | none=>{st with src:=fun g=>if g=f then some 0 else st.src g}
def St.val(st:St V)(k:K):Option V:=(st.sl k).bind (·.val)
def St.use(st:St V)(k:K):St V:=
 match st.sl k with
 | none=>st
 | some m=>{st.put k {m with used:=(st.uses+1) % j9} with uses:=(st.uses+1) % j9,kept:=if k∈st.kept then st.kept else st.kept ++ [k]}
def St.leave(st:St V)(k:K):St V:=
 match st.sl k with
 | none=>st
 | some m=>st.put k {m with act:=false}
def gK(st:St V)(m:bU V)(v:V):bU V:={m with ver:=some st.rev,val:=some v}
def answer(st:St V)(k:K)(v:V):Option (St V):=
 match st.sl k with
 | none=>none
 | some m=>if st.kept.length<cD/\k∉st.kept then some ((st.put k (gK st m v)).use k) else none
def cE(E:eF V)(nc:Bool)(k:K)(lk:List Lk)(st:St V):MC V (V×List Lk):=
 if cD<k.file.size\/cD<k.name.size then none
 else if Lk.slot k∈lk then ((st.find k).val k).map fun v=>(.ok (v,lk),st.find k)
 else match E k (st.find k) with
  | some (.ok _,st2)=>if lk.length<cD then (st2.val k).map fun v=>(.ok (v,lk ++ [.slot k]),st2) else none
  | some (.error c,st2)=>if nc||k.kind != 7 then none else some (.cyc c,st2)
  | none=>none
def run(E:eF V)(nc:Bool):Prog V->List Lk->St V->MC V (V×List Lk)
 | ⟨.inl v,_⟩,lk,st=>some (.ok (v,lk),st)
 | ⟨.inr (.inl _),_⟩,_,_=>none
 | ⟨.inr (.inr (.inl f)),c⟩,lk,st=>if lk.length<cD/\f.size<=cD then run E nc (c (st.files f)) (lk ++ [.src f]) (st.source f) else none
 | ⟨.inr (.inr (.inr k)),c⟩,lk,st=>
  match cE E nc k lk st with
  | some (.ok (v,lk'),st')=>run E nc (c v) lk' st'
  | some (.error c',st')=>some (.cyc c',st')
  | none=>none
def workOut(wp:K->Prog V)(E:eF V)(k:K)(st:St V):MC V Unit:=
 if st.began.length<cD then
  match run E (k.kind != 7) (wp k) [] {st with began:=st.began ++ [k]} with
  | some (.ok (v,_),st')=>(answer st' k v).map fun s=>(.ok (),s)
  | some (.error c,st')=>some (.cyc c,st')
  | none=>none
 else none
def inner(wp:K->Prog V)(E:eF V)(k:K)(st:St V):MC V Unit:=
 match st.sl k with
 | none=>none
 | some m=>if m.ver=some st.rev then (if k∈st.kept then some (.ok (),st.use k) else workOut wp E k st) else if m.ver=none then workOut wp E k st else none
def dK(wp:K->Prog V)(lp:V)(E:eF V):eF V:=fun k st=>
 match st.sl k with
 | none=>none
 | some m=>
  if m.act=true then (if k.kind != 7 then none else some (.cyc k,st))
  else match inner wp E k (st.put k {m with act:=true}) with
   | none=>none
   | some (.ok _,st2)=>some (.ok (),st2.leave k)
   | some (.error c,st2)=>if c=k then (answer st2 k lp).map fun s=>(.ok (),s.leave k) else if k.kind != 7 then none else some (.cyc c,st2.leave k)
def pC(wp:K->Prog V)(lp:V):Nat->eF V
 | 0=>fun _ _=>none
 | n+1=>dK wp lp (pC wp lp n)
def bV(F:ByteArray->Option ByteArray)(a:K->V):Prog V->Option V
 | ⟨.inl v,_⟩=>some v
 | ⟨.inr (.inl _),_⟩=>none
 | ⟨.inr (.inr (.inl f)),c⟩=>bV F a (c (F f))
 | ⟨.inr (.inr (.inr k)),c⟩=>bV F a (c (a k))
def qs(F:ByteArray->Option ByteArray)(a:K->V):Prog V->List Lk
 | ⟨.inl _,_⟩=>[]
 | ⟨.inr (.inl _),_⟩=>[]
 | ⟨.inr (.inr (.inl f)),c⟩=>.src f::qs F a (c (F f))
 | ⟨.inr (.inr (.inr k)),c⟩=>.slot k::qs F a (c (a k))
def Cd:List Lk->List Lk->List Lk
 | acc,[]=>acc
 | acc,.inl f::ls=>Cd (acc ++ [.src f]) ls
 | acc,.inr k::ls=>if Lk.slot k∈acc then Cd acc ls else Cd (acc ++ [.slot k]) ls
def FV(F:ByteArray->Option ByteArray)(a:K->V)(wp:K->Prog V):Nat->K->K->Prop
 | 0,k,c=>k=c
 | n+1,k,c=>∃j,Lk.slot j∈qs F a (wp k)/\FV F a wp n j c
def Reach(F:ByteArray->Option ByteArray)(a:K->V)(wp:K->Prog V)(k c:K):Prop:=∃n,FV F a wp n k c
theorem Reach.here{F:ByteArray->Option ByteArray}{a:K->V}{wp:K->Prog V}(k:K):Reach F a wp k k:=⟨0,rfl⟩
theorem Reach.step{F:ByteArray->Option ByteArray}{a:K->V}{wp:K->Prog V}{k j c:K}(h:Lk.slot j∈qs F a (wp k))(r:Reach F a wp j c):Reach F a wp k c:=by
 obtain⟨n,hn⟩:=r;exact⟨n+1,j,h,hn⟩
theorem Reach.ind{F:ByteArray->Option ByteArray}{a:K->V}{wp:K->Prog V}{P:K->K->Prop}(h1:∀k,P k k)(h2:∀k j c,Lk.slot j∈qs F a (wp k)->Reach F a wp j c->P j c->P k c){k c:K}(h:Reach F a wp k c):P k c:=by
 obtain⟨n,hn⟩:=h;revert k;induction n with
 | zero=>intro k hn;cases hn;exact h1 _
 | succ n ih=>
  intro k hn;obtain⟨j,hj,hr⟩:=hn;exact h2 k j c hj ⟨n,hr⟩ (ih hr)
end
end Go.Proofs.YthibodlojlkppaaGreatDoor
namespace Go.Proofs.YthibodlojlkppaaGreatDoor
open Go.RowKit
variable [DecidableEq K] [LawfulBEq Lk]
def gL(l:List ByteArray)(x:ByteArray):Bool:=l.any fun y=>bB y x
abbrev OP:=Int ⊕ Bool ⊕ ByteArray ⊕ List UInt8 ⊕ Unit
def O6:OP->Type
 | .inl _=>Empty
 | .inr (.inl _)=>Empty
 | .inr (.inr (.inl _))=>Empty
 | .inr (.inr (.inr (.inl _)))=>Bool
 | .inr (.inr (.inr (.inr _)))=>Option Bool
structure Ex where
 lab:OP
 sub:O6 lab->Ex
abbrev Ex.num(n:Int):Ex:=⟨.inl n,Empty.elim⟩
abbrev Ex.tru(b:Bool):Ex:=⟨.inr (.inl b),Empty.elim⟩
abbrev Ex.nam(t:ByteArray):Ex:=⟨.inr (.inr (.inl t)),Empty.elim⟩
def two{α:Type}(l r:α):Bool->α
 | false=>l
 | true=>r
def three{α:Type}(c y n:α):Option Bool->α
 | none=>c
 | some false=>y
 | some true=>n
abbrev Ex.pair(op:List UInt8)(l r:Ex):Ex:=⟨.inr (.inr (.inr (.inl op))),two l r⟩
abbrev Ex.choice(c y n:Ex):Ex:=⟨.inr (.inr (.inr (.inr ()))),three c y n⟩
theorem Ex.ind{P:Ex->Prop}(h1:∀n,P (.num n))(h2:∀b,P (.tru b))(h3:∀t,P (.nam t))(h4:∀op l r,P l->P r->P (.pair op l r))(h5:∀c y n,P c->P y->P n->P (.choice c y n)):∀e,P e
 | ⟨.inl n,s⟩=>by rw[show s=Empty.elim from funext fun x=>x.elim];exact h1 n
 | ⟨.inr (.inl n),s⟩=>by rw[show s=Empty.elim from funext fun x=>x.elim];exact h2 n
 | ⟨.inr (.inr (.inl n)),s⟩=>by rw[show s=Empty.elim from funext fun x=>x.elim];exact h3 n
 | ⟨.inr (.inr (.inr (.inl op))),s⟩=>by
  rw[show s=two (s false) (s true) from funext fun x=>by cases x <;> rfl];exact h4 op _ _ (Ex.ind h1 h2 h3 h4 h5 (s false)) (Ex.ind h1 h2 h3 h4 h5 (s true))
 | ⟨.inr (.inr (.inr (.inr ()))),s⟩=>by
  rw[show s=three (s none) (s (some false)) (s (some true)) from funext fun x=>match x with|none=>rfl|some false=>rfl|some true=>rfl];exact h5 _ _ _ (Ex.ind h1 h2 h3 h4 h5 (s none)) (Ex.ind h1 h2 h3 h4 h5 (s (some false))) (Ex.ind h1 h2 h3 h4 h5 (s (some true)))
def fF:Ex->Value
 | ⟨.inl n,_⟩=>.iface 197 (.int .i64 n)
 | ⟨.inr (.inl b),_⟩=>.iface 290 (.bool b)
 | ⟨.inr (.inr (.inl t)),_⟩=>.iface 291 (.string t)
 | ⟨.inr (.inr (.inr (.inl op))),s'⟩=>lP ⟨⟨op⟩⟩ (fF (s' false)) (fF (s' true))
 | ⟨.inr (.inr (.inr (.inr _))),s'⟩=>iF (fF (s' none)) (fF (s' (some false))) (fF (s' (some true)))
def fR(t:ByteArray):Option Ex:=
 if (t.toList == [116,114,117,101])||(t.toList == [102,97,108,115,101]) then some (.tru (t.toList == [116,114,117,101]))
 else if iZ t then some (.num (dW t))
 else if bR t then some (.nam t) else none
abbrev Jk:=Option (Nat×Option Ex)
def mO(p:Jk)(k:Nat->Ex->Jk):Jk:=
 match p with
 | none=>none
 | some (b,none)=>some (b,none)
 | some (b,some x)=>k b x
def PX(toks:List Tok):Nat->Nat->Nat->Nat->Ex->Jk
 | 0,_,_,_,_=>none
 | f+1,0,nest,a,_=>mO (PX toks f 1 nest a (.tru true)) fun b x=>
  if cC toks b [61,61] then mO (PX toks f 1 nest (b+1) (.tru true)) fun c y=>some (c,some (.pair [61,61] x y)) else some (b,some x)
 | f+1,1,nest,a,_=>mO (PX toks f 2 nest a (.tru true)) fun b x=>PX toks f 4 nest b x
 | f+1,2,nest,a,_=>mO (PX toks f 3 nest a (.tru true)) fun b x=>PX toks f 5 nest b x
 | f+1,3,nest,a,_=>
  if cC toks a [40] then
   if nest=20 then some (a,none) else mO (PX toks f 0 (nest+1) (a+1) (.tru true)) fun b x=>if cC toks b [41] then some (b+1,some x) else some (b,none)
  else if cC toks a [105,102] then
   if nest=20 then some (a,none) else mO (PX toks f 0 (nest+1) (a+1) (.tru true)) fun b x=>
    if cC toks b [116,104,101,110] then mO (PX toks f 0 (nest+1) (b+1) (.tru true)) fun c y=>
     if cC toks c [101,108,115,101] then mO (PX toks f 0 (nest+1) (c+1) (.tru true)) fun d z=>
      if cC toks d [101,110,100] then some (d+1,some (.choice x y z)) else some (d,none)
     else some (c,none)
    else some (b,none)
  else match fR (tx toks a) with
   | some v=>some (a+1,some v)
   | none=>some (a,none)
 | f+1,4,nest,a,acc=>if cC toks a [43] then mO (PX toks f 2 nest (a+1) (.tru true)) fun b y=>PX toks f 4 nest b (.pair [43] acc y) else some (a,some acc)
 | f+1,_,nest,a,acc=>if cC toks a [42] then mO (PX toks f 3 nest (a+1) (.tru true)) fun b y=>PX toks f 5 nest b (.pair [42] acc y) else some (a,some acc)
structure cL where
 kind:Nat
 num:Nat
 name:ByteArray
 typ:ByteArray
 ex:Option Ex
def Ja:Option Ex->Value
 | none=>.nilIface
 | some e=>fF e
def cI(i:cL):It:=⟨i.kind,i.num,i.name,i.typ,Ja i.ex⟩
def iT(toks:List Tok)(a:Nat):Nat×Option Ex:=(PX toks 1700 0 0 a (.tru true)).getD (a,none)
def AC(toks:List Tok)(a:Nat):Nat×Option cL:=
 if bR (tx toks a) then (if cC toks (a+1) [59] then (a+2,some ⟨0,a,tx toks a,⟨#[]⟩,none⟩) else (a+1,none)) else (a,none)
def rX(toks:List Tok)(k a:Nat):Nat×Option cL:=
 if cC toks a [108,101,116] then
  if bR (tx toks (a+1)) then
   if cC toks (a+2) [58] then
    if mM toks (a+3) then
     if cC toks (a+4) [61] then
      match iT toks (a+5) with
      | (b,none)=>(b,none)
      | (b,some x)=>if cC toks b [59] then (b+1,some ⟨k,a+1,tx toks (a+1),tx toks (a+3),some x⟩) else (b,none)
     else (a+4,none)
    else (a+3,none)
   else (a+2,none)
  else (a+1,none)
 else (a,none)
def gO(toks:List Tok)(a:Nat):Nat×Option cL:=
 if cC toks a [117,115,101] then AC toks (a+1) else if cC toks a [112,117,98] then rX toks 2 (a+1) else rX toks 1 a
def cJ(toks:List Tok):Nat->Nat->List cL×Option Nat
 | 0,_=>([],none)
 | f+1,a=>if bB (tx toks a) ⟨#[]⟩ then ([],none) else
  match gO toks a with
  | (b,none)=>([],some b)
  | (b,some i)=>(i::(cJ toks f b).1,(cJ toks f b).2)
def bY(toks:List Tok):List cL×Option Nat:=cJ toks toks.length 0
def Eg(p:Jk):PR:=p.map fun q=>(q.1,q.2.map fF)
theorem FW(t:ByteArray):gN t=(fR t).map fF:=by
 unfold gN fR;split
 . rfl
 . split
   . rfl
   . split <;> rfl
theorem iC{p:Jk}{k:Nat->Value->PR}{k':Nat->Ex->Jk}(h:∀b x,k b (fF x)=Eg (k' b x)):kC (Eg p) k=Eg (mO p k'):=by
 match p with
 | none=>rfl
 | some (b,none)=>rfl
 | some (b,some x)=>exact h b x
theorem mH(toks:List Tok):∀(f tag nest a:Nat) (v:Value) (x:Ex),(4<=tag->v=fF x)->P toks f tag nest a v=Eg (PX toks f tag nest a x)
 | 0,_,_,_,_,_,_=>by simp[P,PX,Eg]
 | f+1,0,nest,a,v,x,h=>by
  simp only[P,PX];rw[mH toks f 1 nest a .nilIface (.tru true) (by omega)];refine iC fun b x=>?_;split
  . rw[mH toks f 1 nest (b+1) .nilIface (.tru true) (by omega)]
    exact iC fun c y=>rfl
  . rfl
 | f+1,1,nest,a,v,x,h=>by
  simp only[P,PX];rw[mH toks f 2 nest a .nilIface (.tru true) (by omega)];exact iC fun b x=>mH toks f 4 nest b _ x fun _=>rfl
 | f+1,2,nest,a,v,x,h=>by
  simp only[P,PX];rw[mH toks f 3 nest a .nilIface (.tru true) (by omega)];exact iC fun b x=>mH toks f 5 nest b _ x fun _=>rfl
 | f+1,3,nest,a,v,x,h=>by
  simp only[P,PX];have key:∀b,P toks f 0 (nest+1) b .nilIface=Eg (PX toks f 0 (nest+1) b (.tru true)):=fun b=>mH toks f 0 (nest+1) b .nilIface (.tru true) (by omega);split
  . split
    . rfl
    . rw[key]
      exact iC fun b x=>by split <;> rfl
  . split
    . split
      . rfl
      . rw[key]
        refine iC fun b x=>?_;split
        . rw[key]
          refine iC fun c y=>?_;split
          . rw[key]
            exact iC fun d z=>by split <;> rfl
          . rfl
        . rfl
    . rw[FW]
      cases fR (tx toks a) <;> rfl
 | f+1,4,nest,a,v,x,h=>by
  have hv:=h (by omega);subst hv;simp only[P,PX];split
  . rw[mH toks f 2 nest (a+1) .nilIface (.tru true) (by omega)]
    exact iC fun b y=>mH toks f 4 nest b _ _ fun _=>rfl
  . rfl
 | f+1,tag+5,nest,a,v,x,h=>by
  have hv:=h (by omega);subst hv;simp only[P,PX];split
  . rw[mH toks f 3 nest (a+1) .nilIface (.tru true) (by omega)]
    exact iC fun b y=>mH toks f 5 nest b _ _ fun _=>rfl
  . rfl
theorem FY(toks:List Tok)(a:Nat):kV toks a=((iT toks a).1,(iT toks a).2.map fF):=by
 unfold kV iT;rw[mH toks 1700 0 0 a .nilIface (.tru true) (by omega)];cases PX toks 1700 0 0 a (.tru true) <;> rfl
theorem Jl(toks:List Tok)(a:Nat):nZ toks a=((AC toks a).1,(AC toks a).2.map cI):=by
 unfold nZ AC;split
 . split <;> rfl
 . rfl
theorem Jm(toks:List Tok)(k a:Nat):kD toks k a=((rX toks k a).1,(rX toks k a).2.map cI):=by
 unfold kD rX;rw[FY];split
 . split
   . split
     . split
       . split
         . rcases iT toks (a+5) with ⟨b,r⟩
           cases r with
           | none=>rfl
           | some x=>simp only[Option.map_some];split <;> rfl
         . rfl
       . rfl
     . rfl
   . rfl
 . rfl
theorem FZ(toks:List Tok)(a:Nat):mG toks a=((gO toks a).1,(gO toks a).2.map cI):=by
 unfold mG gO;split
 . exact Jl _ _
 . split <;> exact Jm _ _ _
theorem xE(toks:List Tok):∀(f a:Nat),jM toks f a=((cJ toks f a).1.map cI,(cJ toks f a).2)
 | 0,_=>rfl
 | f+1,a=>by
  unfold jM cJ;rw[FZ];split
  . rfl
  . rcases gO toks a with ⟨b,r⟩
    cases r with
    | none=>rfl
    | some i=>
     simp only[Option.map_some,List.map_cons];rw[xE toks f b]
theorem AE(toks:List Tok):iB toks=((bY toks).1.map cI,(bY toks).2):=xE toks _ _
abbrev V:=List Tok ⊕ (List cL×Option Nat) ⊕ List ByteArray ⊕ ByteArray
abbrev V.t(l:List Tok):V:=.inl l
abbrev V.r(l:List cL)(f:Option Nat):V:=.inr (.inl (l,f))
abbrev V.x(l:List ByteArray):V:=.inr (.inr (.inl l))
abbrev V.s(b:ByteArray):V:=.inr (.inr (.inr b))
abbrev bA:ByteArray:=⟨#[]⟩
abbrev tJ:ByteArray:=⟨#[121,101,115]⟩
abbrev Ml:ByteArray:=⟨#[110,111]⟩
abbrev none_:ByteArray:=⟨#[110,111,110,101]⟩
abbrev rY:ByteArray:=⟨#[116,119,111]⟩
abbrev eX:ByteArray:=⟨#[98,97,100]⟩
abbrev dA:ByteArray:=⟨#[99,121,99,108,101]⟩
abbrev q8:ByteArray:=⟨#[111,118,101,114]⟩
abbrev eP:ByteArray:=⟨#[105,110,116]⟩
abbrev fS:ByteArray:=⟨#[98,111,111,108]⟩
abbrev oE:ByteArray:=⟨#[116,114,117,101]⟩
abbrev lQ:ByteArray:=⟨#[102,97,108,115,101]⟩
abbrev MD:ByteArray:=⟨#[117,110,107,110,111,119,110]⟩
abbrev F0:ByteArray:=⟨#[116,119,105,99,101]⟩
abbrev KH:ByteArray:=⟨#[116,121,112,101]⟩
abbrev F7:ByteArray:=⟨#[115,121,110,116,97,120]⟩
def eM(g:ByteArray):Bool:=bR g && !bB g none_ && !bB g rY
def Jn(nm:ByteArray)(i:cL):Bool:=!(i.kind==0)&&(i.name.toList==nm.toList)
def aU(nm:ByteArray)(its:List cL):List cL:=its.filter (Jn nm)
def bS:List cL->List ByteArray->List ByteArray
 | [],acc=>acc
 | i::r,acc=>if i.kind==0 && !gL acc i.name then bS r (acc ++ [i.name]) else bS r acc
def aL:Ex->List ByteArray->List ByteArray
 | ⟨.inl _,_⟩,l=>l
 | ⟨.inr (.inl _),_⟩,l=>l
 | ⟨.inr (.inr (.inl t)),_⟩,l=>if gL l t then l else l ++ [t]
 | ⟨.inr (.inr (.inr (.inl _))),s'⟩,l=>aL (s' true) (aL (s' false) l)
 | ⟨.inr (.inr (.inr (.inr _))),s'⟩,l=>aL (s' (some true)) (aL (s' (some false)) (aL (s' none) l))
def kW(b:Bool)(k:ByteArray):ByteArray:=if b then k else bA
def fE(M:ByteArray->ByteArray):Ex->ByteArray
 | ⟨.inl _,_⟩=>eP
 | ⟨.inr (.inl _),_⟩=>fS
 | ⟨.inr (.inr (.inl t)),_⟩=>M t
 | ⟨.inr (.inr (.inr (.inl op))),s'⟩=>if bB (fE M (s' false)) (fE M (s' true)) then (if op = [61,61] then kW (!bB (fE M (s' false)) bA) fS else kW (bB (fE M (s' false)) eP) eP) else bA
 | ⟨.inr (.inr (.inr (.inr _))),s'⟩=>kW (bB (fE M (s' none)) fS&&bB (fE M (s' (some true))) (fE M (s' (some false)))) (fE M (s' (some false)))
def pD(n:Int):Option Int:=if 999999999<n then none else some n
def jN(b:Bool):Int:=if b then 1 else 0
def dO(M:ByteArray->Int):Ex->Option Int
 | ⟨.inl n,_⟩=>some n
 | ⟨.inr (.inl b),_⟩=>some (jN b)
 | ⟨.inr (.inr (.inl t)),_⟩=>some (M t)
 | ⟨.inr (.inr (.inr (.inl op))),s'⟩=>
  match dO M (s' false),dO M (s' true) with
  | some a,some b=>if op = [43] then pD (a+b) else if op = [42] then pD (a*b) else some (jN (a==b))
  | _,_=>none
 | ⟨.inr (.inr (.inr (.inr _))),s'⟩=>
  match dO M (s' (some false)),dO M (s' (some true)),dO M (s' none) with
  | some b,some d,some a=>some (if a==1 then b else d)
  | _,_,_=>none
def fG(v:ByteArray):Nat:=if bB v dA then 3 else if bB v eX then 2 else if bB v q8 then 1 else 0
def fT(fault v:ByteArray):ByteArray:=if fG fault<fG v then v else fault
def gP(v:ByteArray):Bool:=iZ v||bB v oE||bB v lQ||bB v dA||bB v eX||bB v q8||bB v none_
def eN(v:ByteArray):Int:=if bB v oE then 1 else if iZ v then dW v else 0
def oL(kd:ByteArray)(n:Int):ByteArray:=if bB kd fS then (if n==1 then oE else lQ) else ⟨(Lib.itoa n).toArray⟩
def Ce(f:ByteArray)(c:List Tok->Prog V):Prog V:=.get ⟨2,f,bA⟩ fun v=>match v with | .inl l=>c l|_=>.fail
def p8(f:ByteArray)(c:List cL->Option Nat->Prog V):Prog V:=.get ⟨3,f,bA⟩ fun v=>match v with | .inr (.inl (l,b))=>c l b|_=>.fail
def Jo(f:ByteArray)(c:List ByteArray->Prog V):Prog V:=.get ⟨4,f,bA⟩ fun v=>match v with | .inr (.inr (.inl l))=>c l|_=>.fail
def oM(k:K)(c:ByteArray->Prog V):Prog V:=.get k fun v=>match v with | .inr (.inr (.inr b))=>c b|_=>.fail
def mP(its:List cL):List (List UInt8):=(its.filter fun i=>i.kind==2).map fun i=>i.name.data.toList
def iQ(its:List cL):List ByteArray:=(Lib.compact ((mP its).mergeSort fun x y=>decide (x<=y))).map fun x=>⟨x.toArray⟩
def pE(nm:ByteArray)(c:ByteArray->Prog V):List ByteArray->ByteArray->Prog V
 | [],found=>c found
 | f::fs,found=>Jo f fun xs=>if gL xs nm then pE nm c fs (if bB found none_ then f else rY) else pE nm c fs found
def AF(f nm:ByteArray):Prog V:=p8 f fun its _=>
 match aU nm its with
 | []=>pE nm (fun r=>.ret (.s r)) (bS its []) none_
 | [_]=>.ret (.s f)
 | _=>.ret (.s rY)
def xF(f nm:ByteArray)(c:ByteArray->Prog V):Prog V:=oM ⟨5,f,nm⟩ fun g=>
 if eM g then p8 g fun its _=>match aU nm its with | [i]=>c i.typ|_=>c bA else c bA
def mQ(f:ByteArray)(c:(ByteArray->ByteArray)->Prog V):List ByteArray->(ByteArray->ByteArray)->Prog V
 | [],M=>c M
 | n::ns,M=>xF f n fun t=>mQ f c ns fun x=>if x=n then t else M x
def AG(f nm:ByteArray):Prog V:=p8 f fun its _=>
 match aU nm its with
 | [i]=>match i.ex with
  | none=>.fail
  | some e=>mQ f (fun M=>.ret (.s (if bB (fE M e) i.typ then i.typ else eX))) (aL e []) fun _=>bA
 | _=>.ret (.s none_)
def lR(f:ByteArray)(c:ByteArray->(ByteArray->Int)->Prog V):List ByteArray->ByteArray->(ByteArray->Int)->Prog V
 | [],fault,M=>c fault M
 | n::ns,fault,M=>oM ⟨5,f,n⟩ fun g=>oM ⟨7,g,n⟩ fun v=>if gP v then lR f c ns (fT fault v) (fun x=>if x=n then eN v else M x) else .fail
def gF(e:Ex)(kd fault:ByteArray)(M:ByteArray->Int):ByteArray:=
 if bB fault bA then (match dO M e with|none=>q8|some n=>oL kd n) else fault
def tK(f nm:ByteArray):Prog V:=oM ⟨6,f,nm⟩ fun kd=>
 if bB kd none_||bB kd eX then .ret (.s kd) else p8 f fun its _=>
  match aU nm its with
  | []=>.fail
  | i::_=>match i.ex with
   | none=>.fail
   | some e=>lR f (fun fault M=>.ret (.s (gF e kd fault M))) (aL e []) bA fun _=>0
def kP(f:ByteArray)(its:List cL)(i:cL)(c:ByteArray->Prog V):Prog V:=
 if i.kind==0 then oM ⟨1,i.name,bA⟩ fun v=>c (if bB v tJ then bA else MD)
 else if 1<(aU i.name its).length then c F0
 else oM ⟨6,f,i.name⟩ fun t=>if bB t eX then c KH else oM ⟨7,f,i.name⟩ fun v=>c (fT bA v)
def kE(n:Nat):ByteArray:=⟨(Lib.itoa (n:Int)).toArray⟩
def tL(out:ByteArray)(t:Tok)(word:ByteArray):ByteArray:=out++((((kE t.line++⟨#[58]⟩)++kE t.col)++⟨#[32]⟩++word)++⟨#[10]⟩)
def mR(toks:List Tok)(num:Nat)(word out:ByteArray)(c:ByteArray->Prog V):Prog V:=
 if bB word bA then c out else match toks[num]? with
  | none=>.fail
  | some t=>c (tL out t word)
def gT(f:ByteArray)(toks:List Tok)(its:List cL)(c:ByteArray->Prog V):List cL->ByteArray->Prog V
 | [],out=>c out
 | i::r,out=>kP f its i fun word=>mR toks i.num word out fun out'=>gT f toks its c r out'
def kH(f:ByteArray):Prog V:=Ce f fun toks=>p8 f fun its fl=>
 gT f toks its (fun out=>match fl with|none=>.ret (.s out)|some b=>mR toks b F7 out fun out'=>.ret (.s out')) its bA
def wp(k:K):Prog V:=
 if k.kind=1 then .look k.file fun o=>.ret (.s (if o.isSome then tJ else Ml))
 else if k.kind=2 then .look k.file fun o=>.ret (.t (aN (o.getD bA)))
 else if k.kind=3 then Ce k.file fun toks=>.ret (.r (bY toks).1 (bY toks).2)
 else if k.kind=4 then p8 k.file fun its _=>.ret (.x (iQ its))
 else if k.kind=5 then AF k.file k.name
 else if k.kind=6 then AG k.file k.name
 else if k.kind=7 then tK k.file k.name
 else kH k.file
end Go.Proofs.YthibodlojlkppaaGreatDoor
namespace Go.Proofs.YthibodlojlkppaaGreatDoor
section
variable {α:Type} [DecidableEq α]
def eG(l:List α)(i j:Nat):List α:=
 match l[i]?,l[j]? with
 | some a,some b=>(l.set i b).set j a
 | _,_=>l
def fK(used:α->Nat)(l:List α)(i:Nat):Nat:=((l[i]?).map used).getD 0
theorem cN(l:List α)(i j:Nat):(eG l i j).length=l.length:=by
 unfold eG;split <;> simp
theorem nN{l:List α}{i j:Nat}(hi:i<l.length)(hj:j<l.length)(k:Nat):(eG l i j)[k]? = if k=j then l[i]? else if k=i then l[j]? else l[k]?:=by
 have h1:=List.getElem?_eq_getElem hi;have h2:=List.getElem?_eq_getElem hj;unfold eG;rw[h1,h2];simp only[List.getElem?_set];by_cases h3:k=j
 . subst h3;simp[hj]
 . rw[if_neg (fun e=>h3 e.symm),if_neg h3]
   by_cases h4:k=i
   . subst h4;simp[hi]
   . rw[if_neg (fun e=>h4 e.symm),if_neg h4]
theorem tM(l:List α)(i j:Nat):(eG l i j).Perm l:=by
 unfold eG;split
 . rename_i a b ha hb
   obtain⟨hi,ea⟩:=List.getElem?_eq_some_iff.1 ha;obtain⟨hj,eb⟩:=List.getElem?_eq_some_iff.1 hb;rw[List.perm_iff_count];intro x;rw[List.count_set (by simpa using hj),List.count_set hi,ea];have hc:(l[i]==x)=true->1<=l.count x:=fun h=>by
    have:x∈l:=by rw[<-eq_of_beq h];exact List.getElem_mem hi
    exact List.count_pos_iff.2 this
   rw[ea] at hc;by_cases hij:i=j
   . subst hij
     rw[ea] at eb;subst eb;simp only[List.getElem_set_self];split
     . rename_i h;have:=hc h;omega
     . omega
   . rw[List.getElem_set_ne hij,eb]
     split
     . rename_i h
       have:=hc h
       split
       . rename_i h2;have e:=(eq_of_beq h).trans (eq_of_beq h2).symm;simp;omega
       . simp;omega
     . split <;> simp
 . exact List.Perm.refl _
theorem tN{used:α->Nat}{l:List α}{i j:Nat}(hi:i<l.length)(hj:j<l.length)(k:Nat):fK used (eG l i j) k=if k=j then fK used l i else if k=i then fK used l j else fK used l k:=by
 unfold fK;rw[nN hi hj];split
 . rfl
 . split <;> rfl
def par(i:Nat):Nat:=(i-1) / 2
def tO(used:α->Nat):Nat->List α->Nat->List α
 | 0,l,_=>l
 | f+1,l,j=>if par j=j then l else if fK used l j<fK used l (par j) then tO used f (eG l (par j) j) (par j) else l
def child(used:α->Nat)(l:List α)(n i:Nat):Nat:=if 2*i+2<n/\fK used l (2*i+2)<fK used l (2*i+1) then 2*i+2 else 2*i+1
def bT(used:α->Nat)(n:Nat):Nat->List α->Nat->List α×Nat
 | 0,l,i=>(l,i)
 | f+1,l,i=>if n<=2*i+1 then (l,i) else
  if fK used l (child used l n i)<fK used l i then bT used n f (eG l i (child used l n i)) (child used l n i) else (l,i)
def HN(used:α->Nat)(l:List α)(n:Nat):Prop:=∀i,i<n->fK used l (par i)<=fK used l i
theorem kX{used:α->Nat}{l:List α}{n i:Nat}(h:¬n<=2*i+1):child used l n i<n/\i<child used l n i/\(child used l n i=2*i+1\/child used l n i=2*i+2):=by
 unfold child;split <;> omega
theorem DA{used:α->Nat}:∀(f:Nat) (l:List α) (j:Nat),j<l.length->j<f->(∀i,i<l.length->i≠j->fK used l (par i)<=fK used l i)->(∀c,c<l.length->c≠j->par c=j->fK used l (par j)<=fK used l c)->HN used (tO used f l j) l.length
 | 0,l,j,_,hf,_,_=>by omega
 | f+1,l,j,hj,hf,h1,h2=>by
  unfold tO;by_cases he:par j=j
  . rw[if_pos he]
    intro i hi;by_cases hij:i=j
    . subst hij;rw[he];exact Nat.le_refl _
    . exact h1 i hi hij
  . rw[if_neg he]
    have hpj:par j<j:=by unfold par at he ⊢;omega
    have hi:par j<l.length:=by omega
    by_cases hlt:fK used l j<fK used l (par j)
    . rw[if_pos hlt]
      have hu:=fun k=>tN (used:=used) hi hj k;have hlen:=cN l (par j) j;have:=DA (used:=used) f (eG l (par j) j) (par j) (by omega) (by omega) (fun k hk hne=>?_) (fun c hc hne hp=>?_)
      . rw[hlen] at this;exact this
      . rw[hu k,hu (par k),if_neg hne]
        rw[hlen] at hk;by_cases hkj:k=j
        . subst hkj
          rw[if_neg he,if_pos rfl,if_pos rfl];omega
        . rw[if_neg hkj]
          by_cases h3:par k=j
          . rw[if_pos h3];exact h2 k hk hkj h3
          . rw[if_neg h3]
            by_cases h4:par k=par j
            . rw[if_pos h4]
              have:=h1 k hk hkj
              rw[h4] at this;omega
            . rw[if_neg h4];exact h1 k hk hkj
      . rw[hlen] at hc
        have hpp:par (par j)<=par j:=by unfold par;omega
        rw[hu (par (par j)),hu c,if_neg (by omega:¬par (par j)=j),if_neg hne];by_cases hcj:c=j
        . subst hcj
          rw[if_pos rfl];by_cases h4:par (par c)=par c
          . rw[if_pos h4];omega
          . rw[if_neg h4];exact h1 (par c) hi (by omega)
        . rw[if_neg hcj]
          have h5:=h1 c hc hcj;rw[hp] at h5;by_cases h4:par (par j)=par j
          . rw[if_pos h4];omega
          . rw[if_neg h4]
            have:=h1 (par j) hi (by omega)
            omega
    . rw[if_neg hlt]
      intro i hi2;by_cases hij:i=j
      . subst hij;omega
      . exact h1 i hi2 hij
theorem yU{used:α->Nat}{n:Nat}:∀(f:Nat) (l:List α) (i:Nat),n<=l.length->i<n->n<=f+i->(∀k,k<n->k≠0->par k≠i->fK used l (par k)<=fK used l k)->(∀c,c<n->c≠0->par c=i->i≠0->fK used l (par i)<=fK used l c)->HN used (bT used n f l i).1 n
 | 0,l,i,_,hi,hf,_,_=>by omega
 | f+1,l,i,hl,hi,hf,h1,h2=>by
  unfold bT;have hch:∀k,k≠0->par k=i->k=2*i+1\/k=2*i+2:=fun k h0 hp=>by unfold par at hp;omega
  by_cases hn:n<=2*i+1
  . rw[if_pos hn]
    intro k hk;by_cases h0:k=0
    . subst h0;exact Nat.le_refl _
    . exact h1 k hk h0 fun hp=>by have:=hch k h0 hp;omega
  . rw[if_neg hn]
    obtain⟨hcn,hic,hcc⟩:=kX (used:=used) (l:=l) hn;have hmin:∀k,k<n->k≠0->par k=i->fK used l (child used l n i)<=fK used l k:=fun k hk h0 hp=>by
     have:=hch k h0 hp
     unfold child;split
     . rename_i h
       rcases this with rfl|rfl
       . exact Nat.le_of_lt h.2
       . exact Nat.le_refl _
     . rename_i h
       rcases this with rfl|rfl
       . exact Nat.le_refl _
       . have:¬(fK used l (2*i+2)<fK used l (2*i+1)):=fun e=>h ⟨hk,e⟩
         omega
    have hpc:par (child used l n i)=i:=by unfold par;omega
    generalize hcd:child used l n i=c at *;by_cases hlt:fK used l c<fK used l i
    . rw[if_pos hlt]
      have hu:=fun k=>tN (used:=used) (l:=l) (i:=i) (j:=c) (by omega) (by omega) k;have hlen:=cN l i c;refine yU f (eG l i c) c (by omega) hcn (by omega) (fun k hk h0 hp=>?_) (fun d hd h0 hp hc0=>?_)
      . rw[hu k,hu (par k),if_neg hp]
        by_cases hkc:k=c
        . subst hkc
          rw[if_pos hpc,if_pos rfl];omega
        . rw[if_neg hkc]
          by_cases h3:par k=i
          . rw[if_pos h3]
            by_cases h4:k=i
            . subst h4;unfold par at h3;omega
            . rw[if_neg h4];exact hmin k hk h0 h3
          . rw[if_neg h3]
            by_cases h4:k=i
            . subst h4
              rw[if_pos rfl];exact h2 c hcn (by omega) hpc h0
            . rw[if_neg h4];exact h1 k hk h0 h3
      . rw[hpc,hu i,hu d,if_neg (by omega:¬i=c),if_pos rfl]
        by_cases h4:d=c
        . subst h4;unfold par at hp;omega
        . rw[if_neg h4]
          by_cases h5:d=i
          . subst h5;unfold par at hp;omega
          . rw[if_neg h5]
            have:=h1 d hd h0 (by rw[hp];omega)
            rw[hp] at this;exact this
    . rw[if_neg hlt]
      intro k hk;show fK used l (par k)<=fK used l k;by_cases h0:k=0
      . subst h0;exact Nat.le_refl _
      . by_cases hp:par k=i
        . have:=hmin k hk h0 hp
          rw[hp];omega
        . exact h1 k hk h0 hp
theorem tP(used:α->Nat):∀(f g:Nat) (l:List α) (j:Nat),j<f->j<g->tO used f l j=tO used g l j
 | 0,g,l,j,h,_=>by omega
 | f+1,0,l,j,_,h=>by omega
 | f+1,g+1,l,j,hf,hg=>by
  unfold tO;split
  . rfl
  . rename_i hne
    split
    . have:par j<j:=by unfold par at hne ⊢;omega
      exact tP used f g _ _ (by omega) (by omega)
    . rfl
theorem tQ(used:α->Nat)(n:Nat):∀(f g:Nat) (l:List α) (i:Nat),n<=f+i->n<=g+i->bT used n f l i=bT used n g l i
 | 0,0,_,_,_,_=>rfl
 | 0,g+1,l,i,h,_=>by
  unfold bT;rw[if_pos (by omega)]
 | f+1,0,l,i,_,h=>by
  unfold bT;rw[if_pos (by omega)]
 | f+1,g+1,l,i,hf,hg=>by
  unfold bT;split
  . rfl
  . rename_i hn
    obtain⟨_,hic,_⟩:=kX (used:=used) (l:=l) hn;split
    . exact tQ used n f g _ _ (by omega) (by omega)
    . rfl
def F8(used:α->Nat)(l:List α)(i:Nat):List α:=
 if i<(bT used l.length l.length l i).2 then (bT used l.length l.length l i).1 else tO used (l.length+1) (bT used l.length l.length l i).1 i
theorem oN{used:α->Nat}{n:Nat}:∀(f:Nat) (l:List α) (i:Nat),(i<=(bT used n f l i).2)/\((bT used n f l i).2=i->(bT used n f l i).1=l)
 | 0,l,i=>⟨Nat.le_refl _,fun _=>rfl⟩
 | f+1,l,i=>by
  unfold bT;by_cases hn:n<=2*i+1
  . simp[hn]
  . rw[if_neg hn]
    obtain⟨_,hic,_⟩:=kX (used:=used) (l:=l) hn;split
    . have:=(oN (used:=used) (n:=n) f (eG l i (child used l n i)) (child used l n i)).1
      exact⟨by omega,fun h=>by omega⟩
    . simp
theorem K5{used used':α->Nat}{l:List α}(h:HN used l l.length)(hnd:l.Nodup){i:Nat}{k:α}(hi:l[i]? = some k)(hne:∀x,x≠k->used' x=used x):HN used' (F8 used' l i) l.length:=by
 obtain⟨hil,hik⟩:=List.getElem?_eq_some_iff.1 hi;have hoth:∀j,j≠i->fK used' l j=fK used l j:=fun j hj=>by
  unfold fK;cases hx:l[j]? with
  | none=>rfl
  | some x=>
   obtain⟨hjl,hjx⟩:=List.getElem?_eq_some_iff.1 hx;have:x≠k:=fun e=>hj ((List.getElem_inj hnd).1 (by rw[hjx,hik,e]))
   simp[hne x this]
 have hs:=oN (used:=used') (n:=l.length) l.length l i;have hp0:∀c,c≠0->par c≠c:=fun c hc=>by unfold par;omega
 unfold F8;by_cases hlow:fK used l i<=fK used' l i
 . have hd:=yU (used:=used') (n:=l.length) l.length l i (Nat.le_refl _) hil (by omega) (fun c hc h0 hp=>by
    rw[hoth (par c) hp];have:=h c hc
    by_cases hci:c=i
    . subst hci;omega
    . rw[hoth c hci];exact this) (fun c hc h0 hp hi0=>by
    have h1:=h c hc;have h2:=h i hil;rw[hp] at h1;have hci:c≠i:=fun e=>hp0 c h0 (by rw[hp,e]);rw[hoth c hci,hoth (par i) (hp0 i hi0)];omega)
   split
   . exact hd
   . rename_i hnm
     have hst:(bT used' l.length l.length l i).1=l:=hs.2 (by omega);rw[hst] at hd ⊢;exact DA _ _ _ hil (by omega) (fun c hc _=>hd c hc) fun c hc hci hp=>by
      have h1:=hd c hc;have h2:=hd i hil;rw[hp] at h1;omega
 . have hst:bT used' l.length l.length l i=(l,i):=by
    obtain⟨f,hf⟩:∃f,l.length=f+1:=⟨l.length-1,by omega⟩
    have:bT used' l.length (f+1) l i=(l,i):=by
     unfold bT;by_cases hn:l.length<=2*i+1
     . rw[if_pos hn]
     . rw[if_neg hn]
       obtain⟨hcn,hic,hcc⟩:=kX (used:=used') (l:=l) hn;rw[if_neg];rw[hoth _ (by omega)];have:=h _ hcn
       rw[show par (child used' l l.length i)=i from by unfold par;omega] at this;omega
    rw[hf] at this ⊢;exact this
   rw[hst];rw[if_neg (by simp)];show HN used' (tO used' (l.length+1) l i) l.length;exact DA _ _ _ hil (by omega) (fun c hc hci=>by
    have h1:=h c hc;rw[hoth c hci];by_cases hp:par c=i
    . rw[hp] at h1 ⊢
      show fK used' l i<=_;omega
    . rw[hoth (par c) hp];exact h1) fun c hc hci hp=>by
      have h1:=h c hc;have h2:=h i hil;rw[hp] at h1;rw[hoth c hci];by_cases hpi:par i=i
      . rw[hpi];omega
      . rw[hoth (par i) hpi];omega
end
end Go.Proofs.YthibodlojlkppaaGreatDoor

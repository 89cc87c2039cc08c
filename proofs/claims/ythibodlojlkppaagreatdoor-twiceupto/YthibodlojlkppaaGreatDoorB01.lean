/-
  Small facts on worlds, blocks and texts; the small functions of names. Letters, digits, and how many of them stand together at a text's beginning. How long a comment is, how long a token. The tokens of a text, as the program reads them: what ReadTokens hands back. ReadTokens: the walk. The parser's state in memory; text, atEnd, take. The parser: atEnd, take. Keywords, names, numbers, as the progra
-/
import Derived.Test.YthibodlojlkppaaGreatDoorRows
import Derived.Test.YthibodlojlkppaaGreatDoorShelf
import Derived.WalkKit
import Derived.WalkSpells
import Derived.WalkLawsBesides
import Derived.Handy
import Derived.Deep.RegionWith
import Derived.Deep.QuietTactic
import Derived.BigQuiet
import Derived.Lib.Atoi
set_option linter.unusedVariables false
set_option linter.unusedSectionVars false
set_option linter.unusedSimpArgs false
set_option maxRecDepth 100000
set_option maxHeartbeats 40000000

namespace Go.Proofs.YthibodlojlkppaaGreatDoor
open Go.RowKit
theorem hid {p:Prop} (h:p):Hid p:=h
theorem ret_bool {a b:Bool} (h:a=b):Ending.returned (.bool a) = .returned (.bool b):=by rw [h]
theorem ret_int {k:IntKind} {a b:Int} (h:a=b):Ending.returned (.int k a) = .returned (.int k b):=by rw [h]
theorem heap_cell {w:World} {b i:Nat} {cs:Array Value} {T:TypeId} {fr:Nat × Nat} (h:w.heap[b]? = some (.cells cs T fr)):w.cell? ⟨b,i,none⟩=cs[i]?:=by
 simp [World.cell?,h]
theorem heap_frozen {w:World} {b i:Nat} {cs:Array Value} {T:TypeId} (h:w.heap[b]? = some (.cells cs T)):w.frozen? ⟨b,i,none⟩=false:=by
 simp [World.frozen?,h]
theorem heap_setCell_lit {w:World} {b i:Nat} {cs:Array Value} {T:TypeId} {fr:Nat × Nat} (h:w.heap[b]? = some (.cells cs T fr)) (v:Value) :
 (w.setCell ⟨b,i,none⟩ v).heap[b]? = some (.cells (cs.setIfInBounds i v) T fr):=by
 simp [World.setCell,Array.getElem?_modify,h]
theorem heap_setCell_ne {w:World} {b k i:Nat} (h:k≠b) (v:Value):(w.setCell ⟨b,i,none⟩ v).heap[k]? = w.heap[k]?:=Below.heap_setCell _ _ _ _ h
theorem heap_lt {w:World} {b:Nat} {o:Obj} (h:w.heap[b]? = some o):b < w.heap.size:=(Array.getElem?_eq_some_iff.1 h).1
theorem below_heap {w w':World} {B:Nat} (hb:Below B w w') {b:Nat} {o:Obj} (hB:b < B) (h:w.heap[b]? = some o):w'.heap[b]? = some o:=by
 rw [hb.block b hB];exact h
theorem new_heap (w:World) (o:Obj):(w.alloc o).heap[w.heap.size]? = some o:=(MapKept.heap_alloc w o).1
theorem old_heap {w:World} (o:Obj) {b:Nat} {o':Obj} (h:w.heap[b]? = some o'):(w.alloc o).heap[b]? = some o':=by
 rw [Below.heap_alloc _ _ _ (heap_lt h)];exact h
theorem toList_inj {a b:ByteArray}:(a.toList == b.toList)=true↔a=b:=by
 rw [beq_iff_eq]
 constructor
 · intro h
   have h2:a.data.toList=b.data.toList:=by simpa [ByteArray.toList_eq] using h
   exact ByteArray.ext (Array.toList_inj.1 h2)
 · rintro rfl;rfl
def isLetB (c:Int):Bool:=decide (97≤c) && decide (c≤122)
def isDigB (c:Int):Bool:=decide (48≤c) && decide (c≤57)
def runL (p:Int→Bool) (l:List UInt8):Nat:=(l.takeWhile fun c=>p c.toNat).length
theorem takeWhile_len {p:UInt8→Bool}:∀ (l:List UInt8) (k:Nat),k≤l.length→(∀ j,(hj:j < l.length)→j < k→p l[j]=true)→((h:k < l.length)→p l[k]=false)→(l.takeWhile p).length=k
 | [],k,hk,_,_=>by simp at hk;simp [hk]
 | x :: r,0,_,_,h=>by
  have:=h (by simp)
  simp at this
  simp [List.takeWhile,this]
 | x :: r,k+1,hk,ha,h=>by
  have h0:p x=true:=ha 0 (by simp) (by omega)
  simp only [List.takeWhile,h0,List.length_cons]
  rw [takeWhile_len r k (by simpa using hk) (fun j hj hjk=>by have:=ha (j+1) (by simpa using hj) (by omega);simpa using this) (fun hh=>by have:=h (by simpa using hh);simpa using this)]
theorem runL_stop (u:ByteArray) (p:Int→Bool) (k:Nat) (hk:k≤u.size) (ha:∀ j,(hj:j < u.size)→j < k→p u[j].toNat=true) (h:(h:k < u.size)→p u[k].toNat=false):runL p u.data.toList=k:=by
 refine takeWhile_len _ _ (by simpa using hk) (fun j hj hjk => ?_) (fun hh => ?_)
 · show p ((u.data.toList[j]).toNat)=true
   rw [Array.getElem_toList]
   exact ha j (by simpa using hj) hjk
 · show p ((u.data.toList[k]).toNat)=false
   rw [Array.getElem_toList]
   exact h (by simpa using hh)
theorem isLetter_any (c:Int) (w:World) :
 Calls Tryz.prog 55 #[.int .u8 c] w fun e w'=>e = .returned (.bool (isLetB c))∧w'=w:=by
 by_cases h1:97≤c
 · go_enter Tryz.func55,Tryz.ntmps55
   go_wp2
   go_ret
   exact ⟨ret_bool (by simp [isLetB,h1]),rfl⟩
 · go_enter Tryz.func55,Tryz.ntmps55
   go_wp2
   go_ret
   exact ⟨ret_bool (by simp [isLetB];omega),rfl⟩
theorem isDigit_any (c:Int) (w:World) :
 Calls Tryz.prog 140 #[.int .u8 c] w fun e w'=>e = .returned (.bool (isDigB c))∧w'=w:=by
 by_cases h1:48≤c
 · go_enter Tryz.func140,Tryz.ntmps140
   go_wp2
   go_ret
   exact ⟨ret_bool (by simp [isDigB,h1]),rfl⟩
 · go_enter Tryz.func140,Tryz.ntmps140
   go_wp2
   go_ret
   exact ⟨ret_bool (by simp [isDigB];omega),rfl⟩
theorem runOf_isLetter (u:ByteArray) (w:World) (hs:u.size≤maxLen) :
 Calls Tryz.prog 54 #[.string u, .func (Fn.func 55) #[] #[]] w fun e w'=>e = .returned (.int .i64 (runL isLetB u.data.toList))∧w'=w:=by
 unfold maxLen at hs
 go_enter Tryz.func54,Tryz.ntmps54
 go_wp2
 go_loop [5] (fun i => ∃ k:Nat,k≤u.size∧i = .int .i64 k∧∀ j,(hj:j < u.size)→j < k→isLetB u[j].toNat=true) (fun i=>u.size - (intOf i).toNat)
 case atStart=>exact ⟨0,Nat.zero_le _,rfl,fun j hj hk=>by omega⟩
 case round =>
  obtain ⟨k,hk,rfl,hne⟩:=hrel
  have HN:=hid hne
  clear hne
  by_cases hlt:k < u.size
  · by_cases hp:isLetB u[k].toNat=true
    · go_wp2_with (go_at_call 55;refine (isLetter_any _ _).mono ?_;rintro e w' ⟨rfl,rfl⟩)
      go_round
      case rel =>
       refine ⟨k+1,by omega,by go_num,fun j hj hjk => ?_⟩
       by_cases e:j=k
       · subst e;exact hp
       · exact HN.out j hj (by omega)
      case measure=>simp [intOf];omega
    · have hp':isLetB u[k].toNat=false:=by simpa using hp
      have HP:=hid hp'
      clear hp
      go_wp2_with (go_at_call 55;refine (isLetter_any _ _).mono ?_;rintro e w' ⟨rfl,rfl⟩)
      go_ret
      exact ⟨ret_int (by rw [runL_stop u isLetB k hk HN.out (fun h=>HP.out)]),rfl⟩
  · go_wp2
    go_ret
    exact ⟨ret_int (by rw [runL_stop u isLetB k hk HN.out (fun h=>absurd h hlt)]),rfl⟩
theorem runOf_isDigit (u:ByteArray) (w:World) (hs:u.size≤maxLen) :
 Calls Tryz.prog 54 #[.string u, .func (Fn.func 140) #[] #[]] w fun e w'=>e = .returned (.int .i64 (runL isDigB u.data.toList))∧w'=w:=by
 unfold maxLen at hs
 go_enter Tryz.func54,Tryz.ntmps54
 go_wp2
 go_loop [5] (fun i => ∃ k:Nat,k≤u.size∧i = .int .i64 k∧∀ j,(hj:j < u.size)→j < k→isDigB u[j].toNat=true) (fun i=>u.size - (intOf i).toNat)
 case atStart=>exact ⟨0,Nat.zero_le _,rfl,fun j hj hk=>by omega⟩
 case round =>
  obtain ⟨k,hk,rfl,hne⟩:=hrel
  have HN:=hid hne
  clear hne
  by_cases hlt:k < u.size
  · by_cases hp:isDigB u[k].toNat=true
    · go_wp2_with (go_at_call 140;refine (isDigit_any _ _).mono ?_;rintro e w' ⟨rfl,rfl⟩)
      go_round
      case rel =>
       refine ⟨k+1,by omega,by go_num,fun j hj hjk => ?_⟩
       by_cases e:j=k
       · subst e;exact hp
       · exact HN.out j hj (by omega)
      case measure=>simp [intOf];omega
    · have hp':isDigB u[k].toNat=false:=by simpa using hp
      have HP:=hid hp'
      clear hp
      go_wp2_with (go_at_call 140;refine (isDigit_any _ _).mono ?_;rintro e w' ⟨rfl,rfl⟩)
      go_ret
      exact ⟨ret_int (by rw [runL_stop u isDigB k hk HN.out (fun h=>HP.out)]),rfl⟩
  · go_wp2
    go_ret
    exact ⟨ret_int (by rw [runL_stop u isDigB k hk HN.out (fun h=>absurd h hlt)]),rfl⟩
def tokL (l:List UInt8):Nat :=
 match l with
 | []=>1
 | c :: _=>if isLetB c.toNat then runL isLetB l else if isDigB c.toNat then runL isDigB l else if Lib.hasPrefix l [61,61] then 2 else 1
def comL (l:List UInt8):Nat:=(l.takeWhile fun c=>c != 10).length
theorem indexByte_com:∀ (l:List UInt8),(0≤Lib.indexByte l 10→Lib.indexByte l 10=comL l)∧(Lib.indexByte l 10 < 0→comL l=l.length)
 | []=>by simp [Lib.indexByte,comL]
 | c :: r=>by
  obtain ⟨h1,h2⟩:=indexByte_com r
  have hge:=Lib.indexByte_ge r 10
  by_cases hc:c=10
  · subst hc;simp [Lib.indexByte,comL]
  · have hb:(c == 10)=false:=by simpa using hc
    have hb':(c != 10)=true:=by simpa using hc
    have e:comL (c :: r)=comL r+1:=by simp [comL,List.takeWhile,hb']
    rw [e]
    simp only [Lib.indexByte,hb]
    by_cases hm:Lib.indexByte r 10 = -1
    · simp [hm];exact h2 (by omega)
    · have hm':(Lib.indexByte r 10 == -1)=false:=by simpa using hm
      simp only [hm']
      have:=h1 (by omega)
      refine ⟨fun _=>by simp;omega,fun h=>by simp at h;omega⟩
theorem commentSize_any (u:ByteArray) (w:World) :
 Calls Tryz.prog 121 #[.string u] w fun e w'=>e = .returned (.int .i64 (comL u.data.toList))∧w'=w:=by
 have h:=indexByte_com u.data.toList
 generalize hI:Lib.indexByte u.data.toList 10=I at h
 have HI:=hid hI
 obtain ⟨h1,h2⟩:=h
 clear hI
 have H1:=hid h1
 have H2:=hid h2
 clear h1 h2
 by_cases hI:0≤I
 · go_enter Tryz.func121,Tryz.ntmps121
   go_wp2_with (go_at_call 139;go_must (refine (Tryz.strings_IndexByte _ _ _).mono ?_;rintro e w' ⟨rfl,rfl⟩;rw [show ((10:Int).toNat.toUInt8)=10 from rfl,HI.out]))
   go_ret
   exact ⟨ret_int (H1.out hI),rfl⟩
 · go_enter Tryz.func121,Tryz.ntmps121
   go_wp2_with (go_at_call 139;go_must (refine (Tryz.strings_IndexByte _ _ _).mono ?_;rintro e w' ⟨rfl,rfl⟩;rw [show ((10:Int).toNat.toUInt8)=10 from rfl,HI.out]))
   go_ret
   exact ⟨ret_int (by rw [H2.out (by omega)];simp),rfl⟩
theorem byte0 {u:ByteArray} (h:0 < u.size):∃ c r,u.data.toList=c :: r∧u[0]=c:=by
 obtain ⟨⟨l⟩⟩:=u
 cases l with
 | nil=>simp [ByteArray.size] at h
 | cons c r=>exact ⟨c,r,rfl,rfl⟩
theorem tokenSize_any (u:ByteArray) (w:World) (hs:u.size≤maxLen) (h0:0 < u.size) :
 Calls Tryz.prog 122 #[.string u] w fun e w'=>e = .returned (.int .i64 (tokL u.data.toList))∧w'=w:=by
 obtain ⟨c,r,hc,hu⟩:=byte0 h0
 have HC:=hid hc
 have HU:=hid hu
 have HS:=hid hs
 clear hc hu hs
 by_cases hl:isLetB u[0].toNat=true
 · go_enter Tryz.func122,Tryz.ntmps122
   go_wp2_with (first
    | (go_at_call 55;go_must (refine (isLetter_any _ _).mono ?_;rintro e w' ⟨rfl,rfl⟩))
    | (go_at_call 54;go_must (refine (runOf_isLetter _ _ HS.out).mono ?_;rintro e w' ⟨rfl,rfl⟩)))
   go_ret
   refine ⟨ret_int ?_,rfl⟩
   rw [HC.out];simp only [tokL];rw [←HU.out,if_pos hl]
 · have hl':isLetB u[0].toNat=false:=by simpa using hl
   clear hl
   by_cases hd:isDigB u[0].toNat=true
   · go_enter Tryz.func122,Tryz.ntmps122
     go_wp2_with (first
      | (go_at_call 55;go_must (refine (isLetter_any _ _).mono ?_;rintro e w' ⟨rfl,rfl⟩))
      | (go_at_call 140;go_must (refine (isDigit_any _ _).mono ?_;rintro e w' ⟨rfl,rfl⟩))
      | (go_at_call 54;go_must (refine (runOf_isDigit _ _ HS.out).mono ?_;rintro e w' ⟨rfl,rfl⟩)))
     go_ret
     refine ⟨ret_int ?_,rfl⟩
     rw [HC.out];simp only [tokL];rw [←HU.out,hl',hd];simp
   · have hd':isDigB u[0].toNat=false:=by simpa using hd
     clear hd
     by_cases hp:Lib.hasPrefix u.data.toList [61,61]=true
     · have HP:=hid hp
       clear hp
       go_enter Tryz.func122,Tryz.ntmps122
       go_wp2_with (first
        | (go_at_call 55;go_must (refine (isLetter_any _ _).mono ?_;rintro e w' ⟨rfl,rfl⟩))
        | (go_at_call 140;go_must (refine (isDigit_any _ _).mono ?_;rintro e w' ⟨rfl,rfl⟩))
        | (go_at_call 141;go_must (refine (Tryz.strings_HasPrefix _ _ _).mono ?_;rintro e w' ⟨rfl,rfl⟩;rw [show Lib.hasPrefix u.data.toList (⟨#[61,61]⟩:ByteArray).data.toList=true from HP.out])))
       go_ret
       refine ⟨ret_int ?_,rfl⟩
       have hp:=HP.out
       rw [HC.out] at hp ⊢;simp only [tokL];rw [←HU.out,hl',hd',HU.out,hp];rfl
     · have hp':Lib.hasPrefix u.data.toList [61,61]=false:=by simpa using hp
       have HP:=hid hp'
       clear hp hp'
       go_enter Tryz.func122,Tryz.ntmps122
       go_wp2_with (first
        | (go_at_call 55;go_must (refine (isLetter_any _ _).mono ?_;rintro e w' ⟨rfl,rfl⟩))
        | (go_at_call 140;go_must (refine (isDigit_any _ _).mono ?_;rintro e w' ⟨rfl,rfl⟩))
        | (go_at_call 141;go_must (refine (Tryz.strings_HasPrefix _ _ _).mono ?_;rintro e w' ⟨rfl,rfl⟩;rw [show Lib.hasPrefix u.data.toList (⟨#[61,61]⟩:ByteArray).data.toList=false from HP.out])))
       go_ret
       refine ⟨ret_int ?_,rfl⟩
       have hp:=HP.out
       rw [HC.out] at hp ⊢;simp only [tokL];rw [←HU.out,hl',hd',HU.out,hp];rfl
structure Tok where
 text:ByteArray
 line:Nat
 col:Nat
def comP (s:ByteArray) (a:Nat):Nat:=comL (s.extract a s.size).data.toList
def tokP (s:ByteArray) (a:Nat):Nat:=tokL (s.extract a s.size).data.toList
def lexP (s:ByteArray):Nat→Nat→Nat→Nat→List Tok
 | 0,_,_,_ => []
 | f+1,a,line,ls =>
  if h:a < s.size then
   if s[a].toNat=10 then lexP s f (a+1) (line+1) (a+1)
   else if s[a].toNat=32 then lexP s f (a+1) line ls
   else if s[a].toNat=9 then lexP s f (a+1) line ls
   else if s[a].toNat=35 then lexP s f (a+comP s a) line ls
   else ⟨s.extract a (a+tokP s a),line,a - ls+1⟩ :: lexP s f (a+tokP s a) line ls
  else [⟨⟨#[]⟩,line,s.size - ls+1⟩]
def lexAll (s:ByteArray):List Tok:=lexP s (s.size+1) 0 1 0
def tokCells (l:List Tok):List Value:=l.flatMap fun t => [.string t.text, .int .i64 t.line, .int .i64 t.col]
theorem tokCells_length:∀ (l:List Tok),(tokCells l).length=3 * l.length
 | []=>rfl
 | t :: r=>by have:=tokCells_length r;simp only [tokCells,List.flatMap_cons,List.length_append,List.length_cons,List.length_nil] at this ⊢;omega
theorem tokCells_snoc (l:List Tok) (t:Tok):tokCells (l ++ [t])=tokCells l ++ [.string t.text, .int .i64 t.line, .int .i64 t.col]:=by
 simp [tokCells]
theorem runL_le (p:Int→Bool) (l:List UInt8):runL p l≤l.length:=by
 unfold runL;exact (List.takeWhile_sublist _).length_le
theorem runL_pos (p:Int→Bool) (c:UInt8) (r:List UInt8) (h:p c.toNat=true):1≤runL p (c :: r):=by
 unfold runL;simp [List.takeWhile,h]
theorem hasPrefix_two (l:List UInt8) (h:Lib.hasPrefix l [61,61]=true):2≤l.length:=by
 match l with
 | []=>simp [Lib.hasPrefix] at h
 | [x]=>simp [Lib.hasPrefix] at h
 | _ :: _ :: _=>simp
theorem tokL_bd (c:UInt8) (r:List UInt8):1≤tokL (c :: r)∧tokL (c :: r)≤(c :: r).length:=by
 simp only [tokL]
 split
 · next h=>exact ⟨runL_pos _ _ _ h,runL_le _ _⟩
 · split
   · next h=>exact ⟨runL_pos _ _ _ h,runL_le _ _⟩
   · split
     · next h=>exact ⟨by omega,hasPrefix_two _ h⟩
     · simp
theorem rest_cons (s:ByteArray) (a:Nat) (h:a < s.size):∃ r,(s.extract a s.size).data.toList=s[a] :: r∧r.length+1+a=s.size:=by
 have e:(s.extract a s.size).data.toList=s.data.toList.drop a:=by
  rw [←Lib.toList_data,Lib.extract_toList,List.take_of_length_le (by simp)]
 have hl:a < s.data.toList.length:=by simpa using h
 refine ⟨s.data.toList.drop (a+1),?_,?_⟩
 · rw [e,List.drop_eq_getElem_cons hl,Array.getElem_toList];rfl
 · simp;omega
theorem tokP_bd (s:ByteArray) (a:Nat) (h:a < s.size):1≤tokP s a∧a+tokP s a≤s.size:=by
 obtain ⟨r,hr,hl⟩:=rest_cons s a h
 have:=tokL_bd s[a] r
 unfold tokP;rw [hr];simp only [List.length_cons] at this;omega
theorem comP_bd (s:ByteArray) (a:Nat) (h:a < s.size) (hc:s[a].toNat=35):1≤comP s a∧a+comP s a≤s.size:=by
 obtain ⟨r,hr,hl⟩:=rest_cons s a h
 have hne:(s[a] != 10)=true:=by
  rw [bne_iff_ne];intro e;rw [e] at hc;simp at hc
 have:comL (s[a] :: r)=comL r+1:=by simp [comL,List.takeWhile,hne]
 have h2:comL r≤r.length:=by unfold comL;exact (List.takeWhile_sublist _).length_le
 unfold comP;rw [hr,this];omega
theorem lexP_step (s:ByteArray) (f a line ls:Nat) (h:a < s.size):lexP s (f+1) a line ls =
 if s[a].toNat=10 then lexP s f (a+1) (line+1) (a+1)
 else if s[a].toNat=32 then lexP s f (a+1) line ls
 else if s[a].toNat=9 then lexP s f (a+1) line ls
 else if s[a].toNat=35 then lexP s f (a+comP s a) line ls
 else ⟨s.extract a (a+tokP s a),line,a - ls+1⟩ :: lexP s f (a+tokP s a) line ls:=by
 rw [lexP,dif_pos h]
theorem lexP_end (s:ByteArray) (f a line ls:Nat) (h:¬ a < s.size):lexP s (f+1) a line ls = [⟨⟨#[]⟩,line,s.size - ls+1⟩]:=by
 rw [lexP,dif_neg h]
theorem Tryz.infoTok:(Tryz.prog.info? 121).map (fun i=>(i.zero,i.size,i.bytes))=some (some (.agg #[.string ⟨#[]⟩, .int .i64 0, .int .i64 0]),3,32):=by kernel_rfl
def LexAt (s:ByteArray) (w:World) (v l ls i:Value) (wr:World):Prop :=
 ∃ (f a line st:Nat) (acc:List Tok),a≤s.size∧st≤a∧line≤a+1∧s.size - a < f∧i = .int .i64 a∧l = .int .i64 line∧ls = .int .i64 st ∧
  wr.ownsRow w.heap.size 121 3 v acc.length (tokCells acc)∧Below w.heap.size w wr∧acc.length≤a∧acc ++ lexP s f a line st=lexAll s
theorem beqT {a b:Int} (h:a=b):(a == b)=true:=by rw [beq_iff_eq];exact h
theorem beqF {a b:Int} (h:a≠b):(a == b)=false:=by rw [beq_eq_false_iff_ne];exact h
theorem three_cells (w:World) (x y z:Value) (T:TypeId):∀ j u,[x,y,z][j]? = some u→(w.alloc (.cells #[x,y,z] T)).cell? ((⟨w.heap.size,0,none⟩:Addr).add j)=some u:=by
 intro j u hj
 match j,hj with
 | 0,hj | 1,hj | 2,hj=>simp at hj;subst hj;simp [Addr.add]
 | (n+3),hj=>simp at hj
theorem readTokens_any (s:ByteArray) (w:World) (hs:s.size≤400) :
 Calls Tryz.prog 92 #[.string s] w fun e w' => ∃ v,e = .returned v∧w'.ownsRow w.heap.size 121 3 v (lexAll s).length (tokCells (lexAll s))∧Below w.heap.size w w':=by
 obtain ⟨i0,hi,hz0,hz1,hz2⟩:=info_parts Tryz.infoTok
 go_enter Tryz.func92,Tryz.ntmps92
 go_wp2
 go_loopw [3,4,5,6] (fun v l ls i wr=>LexAt s w v l ls i wr) (fun _ _ _ i _=>s.size - (intOf i).toNat)
 case atStart=>exact ⟨s.size+1,0,1,0,[],by omega,by omega,by omega,by omega,rfl,rfl,rfl,World.ownsRow_nil _ _ _ _,Below.refl _ _,by simp,rfl⟩
 case round =>
  obtain ⟨f,a,line,st,acc,ha,hst,hline,hf,rfl,rfl,rfl,hown,hb,hacc,heq⟩:=hrel
  obtain ⟨f,rfl⟩:∃ g,f=g+1:=⟨f - 1,by omega⟩
  have HE:=hid heq
  have HO:=hid hown
  have HB:=hid hb
  clear heq hown hb
  by_cases hlt:a < s.size
  · have hx:=lexP_step s f a line st hlt
    by_cases h10:s[a].toNat=10
    · have b10:=beqT (show (s[a].toNat:Int)=10 by omega)
      have HX:=hid (hx.trans (if_pos h10))
      clear hx h10
      go_wp2
      go_roundw
      case rel=>exact ⟨f,a+1,line+1,a+1,acc,by omega,by omega,by omega,by omega,by go_num,by go_num,by go_num,HO.out,HB.out,by omega,HX.out ▸ HE.out⟩
      case measure=>simp [intOf];omega
    have n10:=beqF (show (s[a].toNat:Int)≠10 by omega)
    rw [if_neg h10] at hx
    by_cases h32:s[a].toNat=32
    · have b32:=beqT (show (s[a].toNat:Int)=32 by omega)
      have HX:=hid (hx.trans (if_pos h32))
      clear hx h32 h10
      go_wp2
      go_roundw
      case rel=>exact ⟨f,a+1,line,st,acc,by omega,by omega,by omega,by omega,by go_num,rfl,rfl,HO.out,HB.out,by omega,HX.out ▸ HE.out⟩
      case measure=>simp [intOf];omega
    have n32:=beqF (show (s[a].toNat:Int)≠32 by omega)
    rw [if_neg h32] at hx
    by_cases h9:s[a].toNat=9
    · have b9:=beqT (show (s[a].toNat:Int)=9 by omega)
      have HX:=hid (hx.trans (if_pos h9))
      clear hx h9 h32 h10
      go_wp2
      go_roundw
      case rel=>exact ⟨f,a+1,line,st,acc,by omega,by omega,by omega,by omega,by go_num,rfl,rfl,HO.out,HB.out,by omega,HX.out ▸ HE.out⟩
      case measure=>simp [intOf];omega
    have n9:=beqF (show (s[a].toNat:Int)≠9 by omega)
    rw [if_neg h9] at hx
    by_cases h35:s[a].toNat=35
    · have b35:=beqT (show (s[a].toNat:Int)=35 by omega)
      have HX:=hid (hx.trans (if_pos h35))
      have hbd:=comP_bd s a hlt h35
      clear hx h9 h32 h10 h35
      go_wp2_with (go_at_call 121;go_must (refine (commentSize_any _ _).mono ?_;rintro e w1 ⟨rfl,rfl⟩;rw [show comL (s.extract a s.size).data.toList=comP s a from rfl]))
      go_roundw
      case rel=>exact ⟨f,a+comP s a,line,st,acc,by omega,by omega,by omega,by omega,by go_num,rfl,rfl,HO.out,HB.out,by omega,HX.out ▸ HE.out⟩
      case measure=>simp [intOf];omega
    have n35:=beqF (show (s[a].toNat:Int)≠35 by omega)
    rw [if_neg h35] at hx
    have HX:=hid hx
    have hbd:=tokP_bd s a hlt
    clear hx h9 h32 h10 h35
    go_wp2_with (first
     | (go_at_call 122;go_must (refine (tokenSize_any _ _ ?hh1 ?hh2).mono ?_;(case hh1=>simp only [ByteArray.size_extract];unfold maxLen;omega);(case hh2=>simp only [ByteArray.size_extract];omega);rintro e w1 ⟨rfl,rfl⟩;rw [show tokL (s.extract a s.size).data.toList=tokP s a from rfl]))
     | (at_builtin;go_must (refine wpList_append_own _ rfl _ _ 82 rfl w.heap.size 121 i0 (.agg #[.string ⟨#[]⟩, .int .i64 0, .int .i64 0]) 3 32 Tryz.underlying82 hi hz0 hz1 hz2 rfl (by decide) _ _ _ rfl (HO.out.alloc _) ⟨w1.heap.size,0,none⟩ 1 1 [.string (s.extract a (a+tokP s a)), .int .i64 line, .int .i64 ((a:Int) - st+1)] rfl rfl (three_cells _ _ _ _ _) ?c2 ?c3 ?c4 ?c5 ?_)))
    case c2=>intro u hu;simp at hu;rcases hu with rfl | rfl | rfl <;> rfl
    case c3=>unfold maxLen;omega
    case c4=>omega
    case c5=>have:=HB.out.size;simp;omega
    intro v' w2 hown' hgrow _
    have HB2:=hid ((HB.out.alloc HB.out.size _).grown hgrow (by have:=HB.out.size;simp;omega) (fun k hk=>(HO.out.lt k hk).1))
    have hcol:((a:Int) - st+1)=((a - st+1:Nat):Int):=by omega
    rw [hcol,←tokCells_snoc acc ⟨s.extract a (a+tokP s a),line,a - st+1⟩] at hown'
    have HO2:=hid hown'
    clear hown' hgrow hcol
    go_wp2
    go_roundw
    case rel=>exact ⟨f,a+tokP s a,line,st,acc ++ [⟨s.extract a (a+tokP s a),line,a - st+1⟩],by omega,by omega,by omega,by omega,by go_num,rfl,rfl,by simpa using HO2.out,HB2.out,by simp;omega,by have h:=HE.out;rw [HX.out] at h;simpa using h⟩
    case measure=>simp [intOf];omega
  · have hx:=lexP_end s f a line st hlt
    have HX:=hid hx
    clear hx
    go_wp2_with (at_builtin;go_must (refine wpList_append_own _ rfl _ _ 82 rfl w.heap.size 121 i0 (.agg #[.string ⟨#[]⟩, .int .i64 0, .int .i64 0]) 3 32 Tryz.underlying82 hi hz0 hz1 hz2 rfl (by decide) _ _ _ rfl (HO.out.alloc _) ⟨wr.heap.size,0,none⟩ 1 1 [.string ⟨#[]⟩, .int .i64 line, .int .i64 ((s.size:Int) - st+1)] rfl rfl (three_cells _ _ _ _ _) ?c2 ?c3 ?c4 ?c5 ?_))
    case c2=>intro u hu;simp at hu;rcases hu with rfl | rfl | rfl <;> rfl
    case c3=>unfold maxLen;omega
    case c4=>omega
    case c5=>have:=HB.out.size;simp;omega
    intro v' w2 hown' hgrow _
    have HB2:=hid ((HB.out.alloc HB.out.size _).grown hgrow (by have:=HB.out.size;simp;omega) (fun k hk=>(HO.out.lt k hk).1))
    have hcol:((s.size:Int) - st+1)=((s.size - st+1:Nat):Int):=by omega
    rw [hcol,←tokCells_snoc acc ⟨⟨#[]⟩,line,s.size - st+1⟩] at hown'
    have he:=HE.out
    rw [HX.out] at he
    rw [he] at hown'
    have hlen:acc.length+1=(lexAll s).length:=by rw [←he];simp
    rw [hlen] at hown'
    have HO2:=hid hown'
    clear hown' hgrow hcol he hlen
    go_wp2
    go_ret
    exact ⟨v',rfl,HO2.out,HB2.out⟩
structure Fr (S:List Nat) (w w':World):Prop where
 os:w'.os=w.os
 tape:w'.tape=w.tape
 output:w'.output=w.output
 size:w.heap.size≤w'.heap.size
 block:∀ k,k < w.heap.size→k ∉ S→w'.heap[k]? = w.heap[k]?
theorem Fr.refl (S:List Nat) (w:World):Fr S w w:=⟨rfl,rfl,rfl,Nat.le_refl _,fun _ _ _=>rfl⟩
theorem Fr.drew {S:List Nat} {a w:World} (h:Fr S a w):Fr S a w.drew:=⟨h.os,h.tape,h.output,h.size,h.block⟩
theorem Fr.alloc {S:List Nat} {a w:World} (h:Fr S a w) (o:Obj):Fr S a (w.alloc o) :=
 ⟨h.os,h.tape,h.output,by have:=h.size;simp;omega,fun k hk hn=>by
  rw [Below.heap_alloc _ _ _ (by have:=h.size;omega)];exact h.block k hk hn⟩
theorem Fr.setCell {S:List Nat} {a w:World} (h:Fr S a w) (p:Addr) (hp:p.block∈S∨a.heap.size≤p.block) (u:Value):Fr S a (w.setCell p u) :=
 ⟨h.os,h.tape,h.output,by have:=h.size;simpa [World.setCell] using this,fun k hk hn=>by
  have hne:k≠p.block:=by
   rintro rfl
   rcases hp with hp | hp
   · exact hn hp
   · omega
  rw [Below.heap_setCell _ _ _ _ hne];exact h.block k hk hn⟩
theorem Fr.trans {S:List Nat} {a b c:World} (h:Fr S a b) (k:Fr S b c):Fr S a c :=
 ⟨k.os.trans h.os,k.tape.trans h.tape,k.output.trans h.output,Nat.le_trans h.size k.size,fun i hi hn =>
  (k.block i (Nat.lt_of_lt_of_le hi h.size) hn).trans (h.block i hi hn)⟩
theorem Fr.of_below {S:List Nat} {w w':World} (h:Below w.heap.size w w'):Fr S w w' :=
 ⟨h.os,h.tape,h.output,h.size,fun k hk _=>h.block k hk⟩
theorem Fr.heap {S:List Nat} {w w':World} (h:Fr S w w') {b:Nat} {o:Obj} (hb:w.heap[b]? = some o) (hn:b ∉ S):w'.heap[b]? = some o :=
 (h.block b (heap_lt hb) hn).trans hb
def tx (toks:List Tok) (i:Nat):ByteArray:=((toks[i]?).map Tok.text).getD ⟨#[]⟩
structure PS (toks:List Tok) (pb tb cap:Nat) (a nest:Nat) (hp:Array Obj):Prop where
 ne:tb≠pb
 p:hp[pb]? = some (.cells #[.slice (some ⟨tb,0,none⟩) toks.length cap, .int .i64 a, .int .i64 nest] 224)
 t:∃ cur,hp[tb]? = some (.cells cur 121)∧cur.toList.take (3 * toks.length)=tokCells toks
theorem tokCells_get:∀ (toks:List Tok) (i:Nat) (t:Tok),toks[i]? = some t→(tokCells toks)[3 * i]? = some (.string t.text)∧(tokCells toks)[3 * i+1]? = some (.int .i64 t.line)∧(tokCells toks)[3 * i+2]? = some (.int .i64 t.col)
 | [],i,t,h=>by simp at h
 | x :: r,0,t,h=>by
  simp at h;subst h
  simp [tokCells]
 | x :: r,i+1,t,h=>by
  have:=tokCells_get r i t (by simpa using h)
  have e:tokCells (x :: r) = .string x.text :: .int .i64 x.line :: .int .i64 x.col :: tokCells r:=by simp [tokCells]
  rw [e,show 3 * (i+1)=3 * i+3 from by omega,show 3 * i+3+1=(3 * i+1)+3 from by omega,show 3 * i+3+2=(3 * i+2)+3 from by omega]
  simpa using this
theorem take_get {l xs:List Value} {n i:Nat} {v:Value} (h:l.take n=xs) (hv:xs[i]? = some v):l[i]? = some v:=by
 rw [←h,List.getElem?_take] at hv
 split at hv
 · exact hv
 · cases hv
theorem PS.cellT {toks:List Tok} {pb tb cap a nest:Nat} {w:World} (h:PS toks pb tb cap a nest w.heap) {i:Nat} (hi:i < toks.length):w.cell? ⟨tb,i * 3,none⟩=some (.string (tx toks i)):=by
 rw [Nat.mul_comm i 3]
 obtain ⟨cur,hc,ht⟩:=h.t
 have hg:toks[i]? = some toks[i]:=List.getElem?_eq_getElem hi
 have:=take_get ht (tokCells_get toks i _ hg).1
 rw [heap_cell hc,←Array.getElem?_toList,this,tx,hg];rfl
theorem PS.c0 {toks:List Tok} {pb tb cap a nest:Nat} {w:World} (h:PS toks pb tb cap a nest w.heap):w.cell? ⟨pb,0,none⟩=some (.slice (some ⟨tb,0,none⟩) toks.length cap):=heap_cell h.p
theorem PS.c1 {toks:List Tok} {pb tb cap a nest:Nat} {w:World} (h:PS toks pb tb cap a nest w.heap):w.cell? ⟨pb,1,none⟩=some (.int .i64 a):=heap_cell h.p
theorem PS.c2 {toks:List Tok} {pb tb cap a nest:Nat} {w:World} (h:PS toks pb tb cap a nest w.heap):w.cell? ⟨pb,2,none⟩=some (.int .i64 nest):=heap_cell h.p
theorem PS.f {toks:List Tok} {pb tb cap a nest:Nat} {w:World} (h:PS toks pb tb cap a nest w.heap) (i:Nat):w.frozen? ⟨pb,i,none⟩=false:=heap_frozen h.p
theorem PS.below {toks:List Tok} {pb tb cap a nest:Nat} {w w':World} (h:PS toks pb tb cap a nest w.heap) (hb:Below w.heap.size w w'):PS toks pb tb cap a nest w'.heap:=by
 obtain ⟨cur,hc,ht⟩:=h.t
 exact ⟨h.ne,below_heap hb (heap_lt h.p) h.p,cur,below_heap hb (heap_lt hc) hc,ht⟩
theorem PS.at {toks:List Tok} {pb tb cap a nest:Nat} {w:World} (h:PS toks pb tb cap a nest w.heap) (b:Nat):PS toks pb tb cap b nest (w.setCell ⟨pb,1,none⟩ (.int .i64 b)).heap:=by
 obtain ⟨cur,hc,ht⟩:=h.t
 exact ⟨h.ne,heap_setCell_lit (i:=1) h.p _,cur,(heap_setCell_ne h.ne _).trans hc,ht⟩
theorem PS.nestAt {toks:List Tok} {pb tb cap a nest:Nat} {w:World} (h:PS toks pb tb cap a nest w.heap) (b:Nat):PS toks pb tb cap a b (w.setCell ⟨pb,2,none⟩ (.int .i64 b)).heap:=by
 obtain ⟨cur,hc,ht⟩:=h.t
 exact ⟨h.ne,heap_setCell_lit (i:=2) h.p _,cur,(heap_setCell_ne h.ne _).trans hc,ht⟩
theorem below_drewN (w:World) (n:Nat):Below w.heap.size w (w.drewN n):=⟨rfl,rfl,rfl,Nat.le_refl _,fun _ _=>rfl⟩
theorem text_any (toks:List Tok) (pb tb cap a nest:Nat) (w:World) (h:PS toks pb tb cap a nest w.heap) (ha:a < toks.length) :
 Calls Tryz.prog 142 #[.pointer (some ⟨pb,0,none⟩)] w fun e w'=>e = .returned (.string (tx toks a))∧Below w.heap.size w w':=by
 have c0:=h.c0
 have c1:=h.c1
 have ct:=h.cellT ha
 clear h
 have ha1:(0:Int)≤(a:Int):=by omega
 have ha2:(a:Int) < (toks.length:Int):=by omega
 go_enter Tryz.func142,Tryz.ntmps142
 go_wp2
 go_quiet (fail)
 go_wp2
 go_ret
 exact ⟨rfl,below_drewN _ _⟩
def eqB (a b:ByteArray):Bool:=a.toList == b.toList
theorem eqB_iff {a b:ByteArray}:eqB a b=true↔a=b:=toList_inj
theorem take_yes (toks:List Tok) (pb tb cap a nest:Nat) (t:ByteArray) (w:World) (h:PS toks pb tb cap a nest w.heap) (ha:a < toks.length) (hn:toks.length≤401) (he:eqB (tx toks a) t=true) :
 Calls Tryz.prog 143 #[.pointer (some ⟨pb,0,none⟩), .string t] w fun e w'=>e = .returned (.bool true)∧PS toks pb tb cap (a+1) nest w'.heap∧Fr [pb] w w':=by
 have HH:=hid h
 have hne:((tx toks a).toList == t.toList)=true:=he
 clear h he
 go_enter Tryz.func143,Tryz.ntmps143
 go_wp2_with (go_at_call 142;go_must (refine (text_any toks pb tb cap a nest _ HH.out ha).mono ?_;rintro e w1 ⟨rfl,hb⟩;have HB:=hid hb;have H1:=hid (HH.out.below hb);have c1:=H1.out.c1;have f1:=H1.out.f 1;clear hb))
 go_ret
 have:=H1.out.at (a+1)
 exact ⟨rfl,by simpa using this,(Fr.of_below HB.out).setCell _ (.inl (by simp)) _⟩
theorem take_no (toks:List Tok) (pb tb cap a nest:Nat) (t:ByteArray) (w:World) (h:PS toks pb tb cap a nest w.heap) (ha:a < toks.length) (he:eqB (tx toks a) t=false) :
 Calls Tryz.prog 143 #[.pointer (some ⟨pb,0,none⟩), .string t] w fun e w'=>e = .returned (.bool false)∧PS toks pb tb cap a nest w'.heap∧Fr [pb] w w':=by
 have HH:=hid h
 have hne:((tx toks a).toList == t.toList)=false:=he
 clear h he
 go_enter Tryz.func143,Tryz.ntmps143
 go_wp2_with (go_at_call 142;go_must (refine (text_any toks pb tb cap a nest _ HH.out ha).mono ?_;rintro e w1 ⟨rfl,hb⟩;have HB:=hid hb;have H1:=hid (HH.out.below hb);clear hb))
 go_ret
 exact ⟨rfl,H1.out,Fr.of_below HB.out⟩
theorem atEnd_any (toks:List Tok) (pb tb cap a nest:Nat) (w:World) (h:PS toks pb tb cap a nest w.heap) (ha:a < toks.length) :
 Calls Tryz.prog 123 #[.pointer (some ⟨pb,0,none⟩)] w fun e w'=>e = .returned (.bool (eqB (tx toks a) ⟨#[]⟩))∧Below w.heap.size w w':=by
 have HH:=hid h
 clear h
 go_enter Tryz.func123,Tryz.ntmps123
 go_wp2_with (go_at_call 142;go_must (refine (text_any toks pb tb cap a nest _ HH.out ha).mono ?_;rintro e w1 ⟨rfl,hb⟩;have HB:=hid hb;clear hb))
 go_ret
 exact ⟨ret_bool (by simp [eqB]),HB.out⟩
def kwB (t:ByteArray):Bool:=(t.toList == [117,115,101]) || (t.toList == [112,117,98]) || (t.toList == [108,101,116]) || (t.toList == [105,110,116]) || (t.toList == [98,111,111,108]) || (t.toList == [116,114,117,101]) || (t.toList == [102,97,108,115,101]) || (t.toList == [105,102]) || (t.toList == [116,104,101,110]) || (t.toList == [101,108,115,101]) || (t.toList == [101,110,100])
theorem isKeyword_any (t:ByteArray) (w:World) :
 Calls Tryz.prog 56 #[.string t] w fun e w'=>e = .returned (.bool (kwB t))∧w'=w:=by
 cases h0:(t.toList == [117,115,101]) with
 | true =>
  go_enter Tryz.func56,Tryz.ntmps56
  go_wp2
  go_ret
  exact ⟨ret_bool (by simp [kwB,h0]),rfl⟩
 | false =>
  cases h1:(t.toList == [112,117,98]) with
  | true =>
   go_enter Tryz.func56,Tryz.ntmps56
   go_wp2
   go_ret
   exact ⟨ret_bool (by simp [kwB,h0,h1]),rfl⟩
  | false =>
   cases h2:(t.toList == [108,101,116]) with
   | true =>
    go_enter Tryz.func56,Tryz.ntmps56
    go_wp2
    go_ret
    exact ⟨ret_bool (by simp [kwB,h0,h1,h2]),rfl⟩
   | false =>
    cases h3:(t.toList == [105,110,116]) with
    | true =>
     go_enter Tryz.func56,Tryz.ntmps56
     go_wp2
     go_ret
     exact ⟨ret_bool (by simp [kwB,h0,h1,h2,h3]),rfl⟩
    | false =>
     cases h4:(t.toList == [98,111,111,108]) with
     | true =>
      go_enter Tryz.func56,Tryz.ntmps56
      go_wp2
      go_ret
      exact ⟨ret_bool (by simp [kwB,h0,h1,h2,h3,h4]),rfl⟩
     | false =>
      cases h5:(t.toList == [116,114,117,101]) with
      | true =>
       go_enter Tryz.func56,Tryz.ntmps56
       go_wp2
       go_ret
       exact ⟨ret_bool (by simp [kwB,h0,h1,h2,h3,h4,h5]),rfl⟩
      | false =>
       cases h6:(t.toList == [102,97,108,115,101]) with
       | true =>
        go_enter Tryz.func56,Tryz.ntmps56
        go_wp2
        go_ret
        exact ⟨ret_bool (by simp [kwB,h0,h1,h2,h3,h4,h5,h6]),rfl⟩
       | false =>
        cases h7:(t.toList == [105,102]) with
        | true =>
         go_enter Tryz.func56,Tryz.ntmps56
         go_wp2
         go_ret
         exact ⟨ret_bool (by simp [kwB,h0,h1,h2,h3,h4,h5,h6,h7]),rfl⟩
        | false =>
         cases h8:(t.toList == [116,104,101,110]) with
         | true =>
          go_enter Tryz.func56,Tryz.ntmps56
          go_wp2
          go_ret
          exact ⟨ret_bool (by simp [kwB,h0,h1,h2,h3,h4,h5,h6,h7,h8]),rfl⟩
         | false =>
          cases h9:(t.toList == [101,108,115,101]) with
          | true =>
           go_enter Tryz.func56,Tryz.ntmps56
           go_wp2
           go_ret
           exact ⟨ret_bool (by simp [kwB,h0,h1,h2,h3,h4,h5,h6,h7,h8,h9]),rfl⟩
          | false =>
           cases h10:(t.toList == [101,110,100]) with
           | true =>
            go_enter Tryz.func56,Tryz.ntmps56
            go_wp2
            go_ret
            exact ⟨ret_bool (by simp [kwB,h0,h1,h2,h3,h4,h5,h6,h7,h8,h9,h10]),rfl⟩
           | false =>
            go_enter Tryz.func56,Tryz.ntmps56
            go_wp2
            go_ret
            exact ⟨ret_bool (by simp [kwB,h0,h1,h2,h3,h4,h5,h6,h7,h8,h9,h10]),rfl⟩
def nameB (t:ByteArray):Bool:=decide (1≤t.size) && decide (t.size≤8) && (((runL isLetB t.data.toList:Nat):Int) == (t.size:Int)) && !kwB t
def numB (t:ByteArray):Bool:=decide (1≤t.size) && decide (t.size≤9) && (((runL isDigB t.data.toList:Nat):Int) == (t.size:Int))
theorem isName_any (t:ByteArray) (w:World) (hs:t.size≤maxLen) :
 Calls Tryz.prog 35 #[.string t] w fun e w'=>e = .returned (.bool (nameB t))∧w'=w:=by
 have HS:=hid hs
 unfold maxLen at hs
 by_cases h1:1≤t.size
 · by_cases h2:t.size≤8
   · cases h3:(((runL isLetB t.data.toList:Nat):Int) == (t.size:Int)) with
     | true =>
      go_enter Tryz.func35,Tryz.ntmps35
      go_wp2_with (first
       | (go_at_call 54;go_must (refine (runOf_isLetter _ _ HS.out).mono ?_;rintro e w ⟨rfl,rfl⟩))
       | (go_at_call 56;go_must (refine (isKeyword_any _ _).mono ?_;rintro e w ⟨rfl,rfl⟩)))
      go_ret
      exact ⟨ret_bool (by simp [nameB,h1,h2,h3]),rfl⟩
     | false =>
      go_enter Tryz.func35,Tryz.ntmps35
      go_wp2_with (first
       | (go_at_call 54;go_must (refine (runOf_isLetter _ _ HS.out).mono ?_;rintro e w ⟨rfl,rfl⟩)))
      go_ret
      exact ⟨ret_bool (by simp [nameB,h3]),rfl⟩
   · go_enter Tryz.func35,Tryz.ntmps35
     go_wp2
     go_ret
     exact ⟨ret_bool (by simp [nameB,h2]),rfl⟩
 · go_enter Tryz.func35,Tryz.ntmps35
   go_wp2
   go_ret
   exact ⟨ret_bool (by simp [nameB];omega),rfl⟩
theorem isNumber_any (t:ByteArray) (w:World) (hs:t.size≤maxLen) :
 Calls Tryz.prog 191 #[.string t] w fun e w'=>e = .returned (.bool (numB t))∧w'=w:=by
 have HS:=hid hs
 unfold maxLen at hs
 by_cases h1:1≤t.size
 · by_cases h2:t.size≤9
   · go_enter Tryz.func191,Tryz.ntmps191
     go_wp2_with (first
      | (go_at_call 54;go_must (refine (runOf_isDigit _ _ HS.out).mono ?_;rintro e w ⟨rfl,rfl⟩)))
     go_ret
     exact ⟨ret_bool (by simp [numB,h1,h2]),rfl⟩
   · go_enter Tryz.func191,Tryz.ntmps191
     go_wp2
     go_ret
     exact ⟨ret_bool (by simp [numB,h2]),rfl⟩
 · go_enter Tryz.func191,Tryz.ntmps191
   go_wp2
   go_ret
   exact ⟨ret_bool (by simp [numB];omega),rfl⟩
def mkPair (op:ByteArray) (l r:Value):Value := .iface 271 (.agg #[.string op,l,r])
def mkChoice (x y z:Value):Value := .iface 293 (.agg #[x,y,z])
def isT (toks:List Tok) (i:Nat) (l:List UInt8):Bool:=(tx toks i).toList == l
def numVal (t:ByteArray):Int:=(Lib.atoi t.data.toList).getD 0
def leafV (t:ByteArray):Option Value :=
 if (t.toList == [116,114,117,101]) || (t.toList == [102,97,108,115,101]) then some (.iface 290 (.bool (t.toList == [116,114,117,101])))
 else if numB t then some (.iface 197 (.int .i64 (numVal t)))
 else if nameB t then some (.iface 291 (.string t)) else none
abbrev PR:=Option (Nat × Option Value)
def andP (p:PR) (k:Nat→Value→PR):PR :=
 match p with
 | none=>none
 | some (b,none)=>some (b,none)
 | some (b,some x)=>k b x
def P (toks:List Tok):Nat→Nat→Nat→Nat→Value→PR
 | 0,_,_,_,_=>none
 | f+1,0,nest,a,_=>andP (P toks f 1 nest a .nilIface) fun b x =>
  if isT toks b [61,61] then andP (P toks f 1 nest (b+1) .nilIface) fun c y=>some (c,some (mkPair ⟨#[61,61]⟩ x y)) else some (b,some x)
 | f+1,1,nest,a,_=>andP (P toks f 2 nest a .nilIface) fun b x=>P toks f 4 nest b x
 | f+1,2,nest,a,_=>andP (P toks f 3 nest a .nilIface) fun b x=>P toks f 5 nest b x
 | f+1,3,nest,a,_ =>
  if isT toks a [40] then
   if nest=20 then some (a,none) else andP (P toks f 0 (nest+1) (a+1) .nilIface) fun b x=>if isT toks b [41] then some (b+1,some x) else some (b,none)
  else if isT toks a [105,102] then
   if nest=20 then some (a,none) else andP (P toks f 0 (nest+1) (a+1) .nilIface) fun b x =>
    if isT toks b [116,104,101,110] then andP (P toks f 0 (nest+1) (b+1) .nilIface) fun c y =>
     if isT toks c [101,108,115,101] then andP (P toks f 0 (nest+1) (c+1) .nilIface) fun d z =>
      if isT toks d [101,110,100] then some (d+1,some (mkChoice x y z)) else some (d,none)
     else some (c,none)
    else some (b,none)
  else match leafV (tx toks a) with
   | some v=>some (a+1,some v)
   | none=>some (a,none)
 | f+1,4,nest,a,acc=>if isT toks a [43] then andP (P toks f 2 nest (a+1) .nilIface) fun b y=>P toks f 4 nest b (mkPair ⟨#[43]⟩ acc y) else some (a,some acc)
 | f+1,_,nest,a,acc=>if isT toks a [42] then andP (P toks f 3 nest (a+1) .nilIface) fun b y=>P toks f 5 nest b (mkPair ⟨#[42]⟩ acc y) else some (a,some acc)
def Ifc (v:Value):Prop:=v = .nilIface∨∃ t y,v = .iface t y
structure Wf (toks:List Tok):Prop where
 pos:0 < toks.length
 le:toks.length≤401
 mid:∀ i,i+1 < toks.length→(tx toks i).size≠0
 last:tx toks (toks.length - 1)=⟨#[]⟩
 size:∀ i,(tx toks i).size≤400
theorem Wf.next {toks:List Tok} (h:Wf toks) {a:Nat} (ha:a < toks.length) (hne:tx toks a≠⟨#[]⟩):a+1 < toks.length:=by
 rcases Nat.lt_or_ge (a+1) toks.length with h1 | h1
 · exact h1
 · exact absurd (by rw [show a=toks.length - 1 from by omega];exact h.last) hne
theorem Wf.next_isT {toks:List Tok} (h:Wf toks) {a:Nat} {x:UInt8} {l:List UInt8} (ha:a < toks.length) (hT:isT toks a (x :: l)=true):a+1 < toks.length:=by
 refine h.next ha fun e => ?_
 rw [isT,e] at hT
 simp at hT
theorem leafV_ne {t:ByteArray} {v:Value} (h:leafV t=some v):t≠⟨#[]⟩:=by
 rintro rfl
 have h1:numB ⟨#[]⟩=false:=by decide
 have h2:nameB ⟨#[]⟩=false:=by decide
 unfold leafV at h
 rw [if_neg (by simp),if_neg (by simp [h1]),if_neg (by simp [h2])] at h
 cases h
end Go.Proofs.YthibodlojlkppaaGreatDoor

/-
  findUsed: every file that is used is asked. saidType: the type that a name's item says. Within a work: the items of a name, of a tree that is fetched. wrong: what is wrong with an item. The work of Report. A text builder of a work's own: where its row lies.
-/
import Derived.Test.YtoagooclaphdbaaGreatDoorQ21
import Derived.Test.YtoagooclaphdbaaGreatDoorQ22
import Derived.Test.YtoagooclaphdbaaGreatDoorQ24
import Derived.Test.YtoagooclaphdbaaGreatDoorQ25
set_option linter.unusedVariables false
set_option linter.unusedSimpArgs false
set_option maxRecDepth 100000
set_option maxHeartbeats 40000000

namespace Go.Proofs.YtoagooclaphdbaaGreatDoor
open Go.RowKit
theorem expX_len (its:List Itx):(expX its).length≤its.length:=by
 unfold expX
 rw [List.length_map]
 refine Nat.le_trans (Lib.compact_length_le _) ?_
 rw [List.length_mergeSort]
 unfold pubsX
 rw [List.length_map]
 exact List.length_filter_le _ _
theorem its_len {s:ByteArray} (hs:s.size≤400) {its:List Itx} {fl:Option Nat} (h:(its,fl)=treeX (lexAll s)):its.length≤401:=by
 have h1:=(treeX_ok (lexAll s)).2
 have h2:=(lexWf s hs).1.le
 rw [←h] at h1
 exact Nat.le_trans h1 h2
theorem row_strs {O:Nat→Prop} {w:World} {ao:Option Addr} {c:Nat} {l:List ByteArray} (h:Row O w 9 (.slice ao l.length c) l.length (l.map .string)):∀ (i:Nat) t,l[i]? = some t→∃ g,ao=some ⟨g,0,none⟩∧w.cell? ⟨g,i,none⟩=some (.string t):=by
 intro i t hi
 have hlt:=(List.getElem?_eq_some_iff.1 hi).1
 obtain ⟨a,b,e,h1,h2⟩:=h
 injection e with e1 e2 e3
 obtain ⟨g,cur,h3,h4,h5,h6⟩:=h2 (by omega)
 refine ⟨g,e1.trans h3,?_⟩
 have h7:(l.map Value.string)[i]? = some (.string t):=by rw [List.getElem?_map,hi];rfl
 have h8:=take_get h6 h7
 rw [heap_cell h5,←Array.getElem?_toList,h8]
theorem flat5n_len:∀ l:List It,(l.flatMap itCells).length=l.length * 5
 | []=>rfl
 | i :: l=>by
  rw [List.flatMap_cons,List.length_append,flat5n_len l,List.length_cons]
  simp [itCells]
  omega
theorem trow_at {L:Lay} {w:World} {ao:Option Addr} {c:Nat} {its:List Itx} (h:TRow L w ao c its):0 < its.length→∃ g cur,ao=some ⟨g,0,none⟩∧w.heap[g]? = some (.cells cur 186 (0,0))∧cur.toList.take (its.length * 5)=(its.map itOf).flatMap itCells:=by
 intro hp
 obtain ⟨a,b,e,h1,h2⟩:=h
 injection e with e1 e2 e3
 obtain ⟨g,cur,h3,h4,h5,h6⟩:=h2 hp
 refine ⟨g,cur,e1.trans h3,h5,?_⟩
 rw [show its.length * 5=((its.map itOf).flatMap itCells).length from ?_]
 · exact h6
 · rw [flat5n_len,List.length_map]
theorem namedT {L:Lay} {w:World} {ao:Option Addr} {c:Nat} {its:List Itx} (hT:TRow L w ao c its) (hn:its.length≤401) (nm:ByteArray) (fault:Value) (W:World) (hb:Below w.heap.size w W) :
 Calls Tryz.prog 143 #[.agg #[.slice ao its.length c,fault], .string nm] W fun e w' => ∃ a2 c2,e = .returned (.slice a2 (namedX nm its).length c2)∧w'.ownsRow (W.heap.size+1) 186 5 (.slice a2 (namedX nm its).length c2) (namedX nm its).length (((namedX nm its).map itOf).flatMap itCells)∧Below W.heap.size W w':=by
 have h:=named_any nm (its.map itOf) (by simpa using hn) (fun i hi=>by
  obtain ⟨j,_,rfl⟩:=List.mem_map.1 hi
  exact exV_shape j) fault ao c W (by
   have:=trow_at (Row.below hT hb)
   simpa using this)
 rw [List.length_map] at h
 refine h.mono ?_
 rintro e w' ⟨v,rfl,hown,hb2⟩
 rw [named_map,List.length_map] at hown
 obtain ⟨a2,c2,rfl⟩:=own_shape hown
 exact ⟨a2,c2,rfl,hown,hb2⟩
theorem findUsedC {W0:World} {B bs lb:Nat} {fm:Value} {st0 st1:St V} {L0 L1:Lay} {w0 w1:World} {lk1:List Lk} {E:Eng V} (hE:Eng0 W0 E bs fm) (hW:WS W0 B bs lb fm st0 L0 w0 st1 L1 lk1 w1) {nm:ByteArray} {nc:Bool} {out:Out (V × List Lk)} {st':St V} {its:List Itx} {fl:Value} {ao:Option Addr} {c:Nat} (hT:TRow L1 w1 ao c its) (hn:its.length≤401)
 (hr:run E nc (usedP nm (fun r => .ret (.s r)) (usesX its []) none_) lk1 st1=some (out,st')) :
 Calls Tryz.prog 144 #[ptr bs,ptr lb, .agg #[.slice ao its.length c,fl], .string nm] w1 fun e w'=>(∃ b,e = .returned (.string b))∧Hid (WkPost B st0 L0 bs lb fm 5 out st' w0 e w'):=by
 have HU:=hid (fun (W:World) (hb:Below w1.heap.size w1 W)=>uses_any its hn fl ao c W (trow_at (Row.below hT hb)))
 have HW:=hid hW
 have HR:=hid hr
 clear hW hr hT
 go_enter Tryz.func144,Tryz.ntmps144
 go_wp2_with fail
 refine (HU.out _ (by first | exact Below.refl _ _ | exact below_newK _ _)).mono ?_
 rintro e w2 ⟨ua,uc,rfl,hown,hb⟩
 obtain ⟨fs,hfs⟩:∃ fs,fs=usesX its []:=⟨_,rfl⟩
 rw [←hfs] at hown HR ⊢
 have hbb:=below_seq (below_newK w1 _) hb
 have hlen:fs.length≤401:=by rw [hfs];have:=usesX_len its [];simp at this;omega
 have HS0:=hid (HW.out.below hbb)
 have HF0:=hid (row_of_own (O:=L1.own) hown fun g hg=>HW.out.e.lt (by simp at hg;omega))
 clear hown hb hbb HU HW hfs
 go_wp2
 go_loopg [9,15] fs.length (fun f vf vi wr => ∃ (k:Nat) (found:ByteArray) (st:St V) (L:Lay) (lk:List Lk),k+f=fs.length∧vf = .string found∧vi = .int .i64 (k:Nat)∧WS W0 B bs lb fm st0 L0 w0 st L lk wr∧Row L.own wr 9 (.slice ua fs.length uc) fs.length (fs.map .string)∧run E nc (usedP nm (fun r => .ret (.s r)) (fs.drop k) found) lk st=some (out,st'))
 case atStart=>exact ⟨0,none_,st1,L1,lk1,by omega,rfl,rfl,HS0.out,HF0.out,HR.out⟩
 case round =>
  clear HS0 HF0 HR
  obtain ⟨k,found,st,L,lk,hk,rfl,rfl,hW,hF,hr⟩:=hrel
  have hkc:(0:Int)≤(k:Int):=by omega
  by_cases hlt:k < fs.length
  · have hlt2:(k:Int) < (fs.length:Int):=by omega
    obtain ⟨fk,hfk⟩:∃ fk,fs[k]? = some fk:=⟨fs[k],List.getElem?_eq_getElem hlt⟩
    have hd:fs.drop k=fk :: fs.drop (k+1):=by
     rw [List.drop_eq_getElem_cons hlt]
     congr 1
     rw [List.getElem?_eq_getElem hlt] at hfk
     injection hfk
    rw [hd] at hr
    obtain ⟨xs,lk2,st2,hm,hr⟩:=run_getX hr
    obtain ⟨g,rfl,hc⟩:=row_strs hF k fk hfk
    have HX:=hid (exportsW hE hW hm)
    have HWW:=hid hW
    have HF:=hid hF
    have HR:=hid hr
    have HK:=hid hk
    clear hW hF hm hr hfk hd hk
    go_wp2_with fail
    refine HX.out.mono ?_
    rintro e w3 ⟨xa,xc,rfl,L3,hg,hrow,s,hs,hxs⟩
    have hxl:xs.length≤1099511627776:=by
     rw [hxs]
     have h1:=expX_len (treeX (lexAll s)).1
     have h2:=(treeX_ok (lexAll s)).2
     have h3:=(lexWf s hs).1.le
     omega
    have HCO:=hid (containsStr (c:=xc) hxl (row_strs hrow) nm)
    obtain ⟨lv,hlb,_⟩:=HWW.out.k.blk
    have HF3:=hid (HF.out.wnext hg.n hlb (by decide) (by decide))
    have HS3:=hid hg.s
    clear hg hrow hs hxs hxl hlb HX HWW HF hc
    go_wp2_with fail
    refine HCO.out.mono ?_
    rintro e w4 ⟨rfl,m,hm4⟩
    have hb4:Below w3.heap.size w3 w4:=by rw [hm4];exact below_drewN w3 m
    have HS4:=hid (HS3.out.below hb4)
    have HF4:=hid (Row.below HF3.out hb4)
    clear hm4 hb4 HS3 HF3 HCO
    cases hmem:memB xs nm with
    | false =>
     have HR2:=HR.out
     rw [hmem] at HR2
     have HR2:=hid HR2
     clear hmem HR
     go_wp2
     go_roundg (fs.length - (k+1))
     case rel=>exact ⟨k+1,found,st2,L3,lk2,by have:=HK.out;omega,rfl,by go_num,HS4.out,HF4.out,HR2.out⟩
     case measure=>have:=HK.out;omega
    | true =>
     have HR2:=HR.out
     rw [hmem] at HR2
     simp only [if_true] at HR2
     clear hmem HR
     cases hfd:(found.toList == [110,111,110,101]) with
     | true =>
      rw [show eqB found none_=true from (eqB_lit found [110,111,110,101]).trans hfd] at HR2
      have HR3:=hid HR2
      clear HR2
      go_wp2
      go_roundg (fs.length - (k+1))
      case rel=>exact ⟨k+1,fk,st2,L3,lk2,by have:=HK.out;omega,rfl,by go_num,HS4.out,HF4.out,HR3.out⟩
      case measure=>have:=HK.out;omega
     | false =>
      rw [show eqB found none_=false from (eqB_lit found [110,111,110,101]).trans hfd] at HR2
      have HR3:=hid HR2
      clear HR2
      go_wp2
      go_roundg (fs.length - (k+1))
      case rel=>exact ⟨k+1,two_,st2,L3,lk2,by have:=HK.out;omega,rfl,by go_num,HS4.out,HF4.out,HR3.out⟩
      case measure=>have:=HK.out;omega
  · have hke:k=fs.length:=by omega
    have hlt2:¬ ((k:Int) < (fs.length:Int)):=by omega
    rw [hke,List.drop_length] at hr
    obtain ⟨rfl,rfl⟩:=run_ret hr
    have HW2:=hid hW
    clear hW hF hr
    go_wp2
    go_ret
    exact ⟨⟨_,rfl⟩,hid (HW2.out.doneS (kind:=5) (by decide) (by decide) (by decide) _)⟩
def Cont (W0:World) (B bs lb:Nat) (fm:Value) (st0:St V) (L0:Lay) (w0:World) (st:St V) (L:Lay) (w:World) (E:Eng V) (nc:Bool) (out:Out (V × List Lk)) (stE:St V) (c:ByteArray→Prog V):Ending→World→Prop:=fun e w' =>
 ∃ t,e = .returned (.string t)∧Hid (∃ L' lk' st',run E nc (c t) lk' st'=some (out,stE)∧Got W0 B bs lb fm st0 L0 w0 st L w st' L' lk' w')
theorem Got.trans {W0:World} {B bs lb:Nat} {fm:Value} {st0 st st1 st2:St V} {L0 L L1 L2:Lay} {w0 w w1 w2:World} {lk1 lk2:List Lk} (h:Got W0 B bs lb fm st0 L0 w0 st L w st1 L1 lk1 w1) (g:Got W0 B bs lb fm st0 L0 w0 st1 L1 w1 st2 L2 lk2 w2):Got W0 B bs lb fm st0 L0 w0 st L w st2 L2 lk2 w2:=⟨h.n.trans g.n,g.s⟩
theorem own_item {w:World} {B a c:Nat} {ao:Option Addr} {n:Nat} {l:List Itx} (h:w.ownsRow B 186 5 (.slice ao n c) n ((l.map itOf).flatMap itCells)) (hn:n=l.length) {i:Itx} (hi:l[a]? = some i) {j:Nat} {u:Value} (hj:(itCells (itOf i))[j]? = some u):∃ g,ao=some ⟨g,0,none⟩∧w.cell? ⟨g,a * 5+j,none⟩=some u:=by
 have hlt:=(List.getElem?_eq_some_iff.1 hi).1
 have hi2:(l.map itOf)[a]? = some (itOf i):=by rw [List.getElem?_map,hi];rfl
 have hj5:j < 5:=by
  rcases Nat.lt_or_ge j 5 with h5 | h5
  · exact h5
  · simp [itCells,List.getElem?_eq_none (show [Value.int .i64 (itOf i).kind, .int .i64 (itOf i).num, .string (itOf i).name, .string (itOf i).typ,(itOf i).ex].length≤j by simpa using h5)] at hj
 obtain ⟨_,⟨h1,h0⟩ | ⟨g,c',cur,h1,h2,h3,h4,h5,h6,h7⟩⟩:=h
 · omega
 · injection h1 with e1 e2 e3
   have h8:=flat5n (l.map itOf) a j (itOf i) hi2 hj5
   rw [hj] at h8
   have h9:=take_get h7 h8
   exact ⟨g,e1,by rw [heap_cell h3,←Array.getElem?_toList,h9]⟩
theorem saidC {W0:World} {B bs lb:Nat} {fm:Value} {st0 st:St V} {L0 L:Lay} {w0 w:World} {lk:List Lk} {E:Eng V} (hE:Eng0 W0 E bs fm) (hW:WS W0 B bs lb fm st0 L0 w0 st L lk w) (h0:w0.heap.size≤w.heap.size) (h00:W0.heap.size≤w0.heap.size) {f nm:ByteArray} {c:ByteArray→Prog V} {nc:Bool} {out:Out (V × List Lk)} {st':St V} (hr:run E nc (saidP f nm c) lk st=some (out,st')) :
 Calls Tryz.prog 146 #[ptr bs,ptr lb, .string f, .string nm] w (Cont W0 B bs lb fm st0 L0 w0 st L w E nc out st' c):=by
 obtain ⟨g,lk1,st1,hm,hr⟩:=run_getS (by simp) hr
 have HFI:=hid (findW hE hW hm)
 have HR:=hid hr
 have H0:=hid h0
 clear hW hr hm h0
 go_enter Tryz.func146,Tryz.ntmps146
 go_wp2_with fail
 refine HFI.out.mono ?_
 rintro e w1 ⟨rfl,L1,hg1⟩
 have HG1:=hid hg1
 clear hg1 HFI
 go_wp2_with fail
 refine (isFile_any g w1).mono ?_
 rintro e w2 ⟨rfl,rfl⟩
 cases hfb:fileB g with
 | false =>
  have hr:=HR.out
  rw [hfb] at hr
  simp only [Bool.false_eq_true,if_false] at hr
  have HR2:=hid hr
  clear hfb hr HR
  go_wp2
  go_ret
  exact ⟨_,rfl,hid ⟨L1,lk1,st1,HR2.out,HG1.out⟩⟩
 | true =>
  have hr:=HR.out
  rw [hfb] at hr
  simp only [if_true] at hr
  obtain ⟨its,fl,lk2,st2,hm,hr⟩:=run_getR hr
  have HT:=hid (treeW hE HG1.out.s (Nat.le_trans H0.out HG1.out.n.fr.size) h00 hm)
  have HR2:=hid hr
  clear hfb hr HR hm
  go_wp2_with fail
  refine HT.out.mono ?_
  rintro e w3 ⟨ao,ac,rfl,L3,hg3,hrow,s,hs,hits⟩
  have HG3:=hid (HG1.out.trans hg3)
  have HNA:=hid (namedT hrow (its_len hs hits) nm (faultV fl) w3 (Below.refl _ _))
  clear hg3 hrow hs hits HT
  go_wp2_with fail
  refine HNA.out.mono ?_
  rintro e w4 ⟨a2,c2,rfl,hown,hb4⟩
  have HG4:=hid (HG3.out.below hb4)
  obtain ⟨l,hl⟩:∃ l,l=namedX nm its:=⟨_,rfl⟩
  have hr:=HR2.out
  rw [←hl] at hr hown ⊢
  clear hl hb4 HNA HR2 HG3
  cases l with
  | nil =>
   have HR3:=hid hr
   clear hr hown
   simp only [List.length_nil]
   go_wp2
   go_ret
   exact ⟨_,rfl,hid ⟨L3,lk2,st2,HR3.out,HG4.out⟩⟩
  | cons i l =>
   cases l with
   | nil =>
    have HR3:=hid hr
    obtain ⟨gb,rfl,hc⟩:=own_item (a:=0) hown rfl rfl (j:=3) (u := .string i.typ) rfl
    clear hr hown
    simp only [List.length_cons,List.length_nil]
    go_wp2
    go_ret
    exact ⟨_,rfl,hid ⟨L3,lk2,st2,HR3.out,HG4.out⟩⟩
   | cons j l =>
    have HR3:=hid hr
    simp only [List.length_cons] at hown ⊢
    obtain ⟨n,hn⟩:∃ n,n=l.length+1+1:=⟨_,rfl⟩
    rw [←hn]
    have h1:((n:Int) == 1)=false:=by rw [beq_eq_false_iff_ne];omega
    clear hr hown hn
    go_wp2
    go_ret
    exact ⟨_,rfl,hid ⟨L3,lk2,st2,HR3.out,HG4.out⟩⟩
section
variable {W0:World} {E:Eng V} {B bs lb:Nat} {fm:Value} {st0 st st1:St V} {L0 L:Lay} {w0 w:World} {lk lk1:List Lk} {nc:Bool} {its:List Itx} {fl:Option Nat}
def NTQ (W0:World) (B bs lb:Nat) (fm:Value) (st0:St V) (L0:Lay) (w0:World) (st:St V) (L:Lay) (w:World) (st1:St V) (lk1:List Lk) (its:List Itx) (fl:Option Nat) (nm:ByteArray) (kb:Nat) (ko:Obj) (a2:Option Addr) (c2:Nat) (w2:World):Prop :=
 w2.heap[kb]? = some ko∧∃ L',Got W0 B bs lb fm st0 L0 w0 st L w st1 L' lk1 w2∧Mine L' lb kb∧TRow L' w2 a2 c2 (namedX nm its)∧∃ s:ByteArray,s.size≤400∧(its,fl)=treeX (lexAll s)
theorem namedTree (hE:Eng0 W0 E bs fm) (hW:WS W0 B bs lb fm st0 L0 w0 st L lk w) (h0:w0.heap.size≤w.heap.size) (h00:W0.heap.size≤w0.heap.size) {f nm:ByteArray} (hm:fetC E nc ⟨3,f,nob⟩ lk st=some (.ok (.r its fl,lk1),st1)) {z:Int} (hz:faultV fl = .int .i64 z) {A:World} (hA:Below w.heap.size w A) {kb:Nat} {ko:Obj} (hk:A.heap[kb]? = some ko) (hkm:Mine L lb kb) (hko:∀ cs,ko ≠ .cells cs 216) :
 ∀ W,Drawn A W→Calls Tryz.prog 74 #[ptr bs,ptr lb, .string f] W fun e w1 => ∃ ao c,e = .returned (.agg #[.slice ao its.length c, .int .i64 z])∧w1.heap[kb]? = some ko ∧
  Hid (∀ W2,Drawn w1 W2→Calls Tryz.prog 143 #[.agg #[.slice ao its.length c, .int .i64 z], .string nm] W2 fun e w2 => ∃ a2 c2,e = .returned (.slice a2 (namedX nm its).length c2)∧Hid (NTQ W0 B bs lb fm st0 L0 w0 st L w st1 lk1 its fl nm kb ko a2 c2 w2)):=by
 intro W hW1
 have hb:=below_seq hA hW1.below
 refine (treeW hE (hW.below hb) (Nat.le_trans h0 hb.size) h00 hm).mono ?_
 rintro e w1 ⟨ao,c,rfl,L1,hg,hrow,s,hs,hits⟩
 have hkW:W.heap[kb]? = some ko:=by rw [hW1.h];exact hk
 obtain ⟨hk1,hkm1⟩:=hg.n.mine hkW hkm hko
 rw [hz]
 refine ⟨ao,c,rfl,hk1,hid fun W2 hW2 => ?_⟩
 refine (namedT hrow (its_len hs hits) nm (.int .i64 z) W2 hW2.below).mono ?_
 rintro e w2 ⟨a2,c2,rfl,hown,hb2⟩
 have hbb:=below_seq hW2.below hb2
 refine ⟨a2,c2,rfl,hid ⟨below_heap hbb (heap_lt hk1) hk1,L1,(hg.lift hb).below hbb,hkm1,row_of_own hown fun g hg2=>hg.s.e.lt (by have:=hW2.below.size;omega),s,hs,hits⟩⟩
theorem trow_item {L:Lay} {w:World} {a2:Option Addr} {c2:Nat} {l:List Itx} (h:TRow L w a2 c2 l) {a:Nat} {i:Itx} (hi:l[a]? = some i) {j:Nat} {u:Value} (hj:(itCells (itOf i))[j]? = some u):∃ g,a2=some ⟨g,0,none⟩∧w.cell? ⟨g,a * 5+j,none⟩=some u:=by
 have hlt:=(List.getElem?_eq_some_iff.1 hi).1
 obtain ⟨g,cur,h1,h2,h3⟩:=trow_at h (by omega)
 have hi2:(l.map itOf)[a]? = some (itOf i):=by rw [List.getElem?_map,hi];rfl
 have hj5:j < 5:=by
  rcases Nat.lt_or_ge j 5 with h5 | h5
  · exact h5
  · simp [itCells,List.getElem?_eq_none (show [Value.int .i64 (itOf i).kind, .int .i64 (itOf i).num, .string (itOf i).name, .string (itOf i).typ,(itOf i).ex].length≤j by simpa using h5)] at hj
 have h8:=flat5n (l.map itOf) a j (itOf i) hi2 hj5
 rw [hj] at h8
 have h9:=take_get h3 h8
 exact ⟨g,h1,by rw [heap_cell h2,←Array.getElem?_toList,h9]⟩
theorem named_ok {nm:ByteArray} {i:Itx} {l:List Itx} {s:ByteArray} (hs:s.size≤400) (hits:(its,fl)=treeX (lexAll s)) (hl:i :: l=namedX nm its) {e:Ex} (he:i.ex=some e):numsOk e∧sizeX e≤401∧(i.typ=int_∨i.typ=bool_):=by
 have hi:i∈namedX nm its:=by rw [←hl];simp
 obtain ⟨h1,h2,h3⟩:=mem_named hi
 have hit:its=(treeX (lexAll s)).1:=by rw [←hits]
 rw [hit] at h1
 have hok:=(treeX_ok (lexAll s)).1 i h1
 obtain ⟨_,ht,e2,he2,hz,_⟩:=hok.let' h2
 rw [he] at he2
 cases he2
 exact ⟨treeX_nums i h1 e he,Nat.le_trans hz (lexWf s hs).1.le,ht⟩
end
theorem namesX_nodup:∀ (e:Ex) (l:List ByteArray),l.Nodup→(namesX e l).Nodup
 | .num _,l,h=>h
 | .tru _,l,h=>h
 | .nam t,l,h=>by
  simp only [namesX]
  split
  · exact h
  · rename_i hn
    rw [List.nodup_append]
    exact ⟨h,by simp,fun x hx y hy=>by
     simp at hy;subst hy;intro e
     exact hn (memB_iff.2 (e ▸ hx))⟩
 | .pair _ a b,l,h=>namesX_nodup b _ (namesX_nodup a l h)
 | .choice a b c,l,h=>namesX_nodup c _ (namesX_nodup b _ (namesX_nodup a l h))
theorem nodup_take {l:List ByteArray} (h:l.Nodup) {k:Nat} {x:ByteArray} (hk:l[k]? = some x):x ∉ l.take k:=by
 intro hm
 have hlt:=(List.getElem?_eq_some_iff.1 hk).1
 have e:l=l.take k ++ l.drop k:=(List.take_append_drop k l).symm
 have hd:x∈l.drop k:=by
  rw [List.drop_eq_getElem_cons hlt,(List.getElem?_eq_some_iff.1 hk).2]
  exact List.mem_cons_self
 rw [e,List.nodup_append] at h
 exact h.2.2 x hm x hd rfl
def ContS (W0:World) (B bs lb:Nat) (fm:Value) (st0:St V) (L0:Lay) (w0:World) (st:St V) (L:Lay) (w:World) (E:Eng V) (out:Out (V × List Lk)) (stE:St V) (c:ByteArray→Prog V):Ending→World→Prop:=fun e w' =>
 ∃ t,e = .returned (.string t)∧t.size≤20∧Hid (∃ L' lk' st',run E true (c t) lk' st'=some (out,stE)∧Got W0 B bs lb fm st0 L0 w0 st L w st' L' lk' w')
theorem worse_size (v:ByteArray):(worse nob v).size≤20:=by
 unfold worse
 split
 · rename_i h
   rw [grav_nob] at h
   unfold grav at h
   split at h
   · rename_i e;rw [eqB_is.1 e];decide
   split at h
   · rename_i e;rw [eqB_is.1 e];decide
   split at h
   · rename_i e;rw [eqB_is.1 e];decide
   · omega
 · decide
theorem wrongC {W0:World} {B bs lb:Nat} {fm:Value} {st0 st:St V} {L0 L:Lay} {w0 w:World} {lk:List Lk} {E:Eng V} (hE:Eng0 W0 E bs fm) (hW:WS W0 B bs lb fm st0 L0 w0 st L lk w) {f:ByteArray} {its:List Itx} {ao:Option Addr} {ac:Nat} (hT:TRow L w ao ac its) (hn:its.length≤401) {z:Int} {i:Itx} {x:Value} (hx:x = .nilIface∨∃ T v,x = .iface T v) {c:ByteArray→Prog V} {out:Out (V × List Lk)} {stE:St V} (hr:run E true (wrongP f its i c) lk st=some (out,stE)) :
 Calls Tryz.prog 153 #[ptr bs,ptr lb, .string f, .agg #[.slice ao its.length ac, .int .i64 z], .agg #[.int .i64 i.kind, .int .i64 i.num, .string i.name, .string i.typ,x]] w (ContS W0 B bs lb fm st0 L0 w0 st L w E out stE c):=by
 have hb0:Below w.heap.size w ((w.alloc (.cells #[.slice ao its.length ac, .int .i64 z] 130)).alloc (.cells #[.int .i64 i.kind, .int .i64 i.num, .string i.name, .string i.typ,x] 186)):=(below_newK w _).alloc (by simp) _
 have hT0:=old_heap (.cells #[.int .i64 i.kind, .int .i64 i.num, .string i.name, .string i.typ,x] 186) (new_heap w (.cells #[.slice ao its.length ac, .int .i64 z] 130))
 have hA:=new_heap (w.alloc (.cells #[.slice ao its.length ac, .int .i64 z] 130)) (.cells #[.int .i64 i.kind, .int .i64 i.num, .string i.name, .string i.typ,x] 186)
 rw [show (w.alloc (.cells #[.slice ao its.length ac, .int .i64 z] 130)).heap.size=w.heap.size+1 from by simp] at hA
 cases hk:(i.kind == 0) with
 | true =>
  unfold wrongP at hr
  rw [if_pos hk] at hr
  have hk0:i.kind=0:=by simpa using hk
  rw [hk0] at hA hb0 ⊢
  obtain ⟨v,lk1,st1,hm,hr⟩:=run_getS (by simp) hr
  have a0:=heap_cell (i:=0) hA
  have a2:=heap_cell (i:=2) hA
  have HKN:=hid (knownW hE (hW.below hb0) hm)
  have HB:=hid hb0
  have HR:=hid hr
  clear hE hW hr hm hk hT hk0 hb0 hA hT0
  go_enter Tryz.func153,Tryz.ntmps153
  go_wp2_with fail
  refine HKN.out.mono ?_
  rintro e w1 ⟨rfl,L1,hg⟩
  have HG:=hid (hg.lift HB.out)
  have hr:=HR.out
  clear hg HKN
  cases hv:(v.toList == [121,101,115]) with
  | true =>
   rw [if_pos (show eqB v yes_=true from (eqB_lit v [121,101,115]).trans hv)] at hr
   have HR2:=hid hr
   clear hr HR
   go_wp2
   go_ret
   exact ⟨_,rfl,by decide,hid ⟨L1,lk1,st1,HR2.out,HG.out⟩⟩
  | false =>
   rw [if_neg (by rw [show eqB v yes_=false from (eqB_lit v [121,101,115]).trans hv];exact Bool.noConfusion)] at hr
   have HR2:=hid hr
   clear hr HR
   go_wp2
   go_ret
   exact ⟨_,rfl,by decide,hid ⟨L1,lk1,st1,HR2.out,HG.out⟩⟩
 | false =>
  unfold wrongP at hr
  rw [if_neg (by rw [hk];exact Bool.noConfusion)] at hr
  have hk0:((i.kind:Int) == 0)=false:=by
   rw [beq_eq_false_iff_ne] at hk ⊢
   omega
  have a0:=heap_cell (i:=0) hA
  have a2:=heap_cell (i:=2) hA
  have t0:=heap_cell (i:=0) hT0
  have t1:=heap_cell (i:=1) hT0
  have HNA:=hid (fun W (hb:Below _ _ W)=>namedT hT hn i.name (.int .i64 z) W (below_seq hb0 hb))
  have HI:=hid hA
  have HW:=hid (hW.below hb0)
  have HB:=hid hb0
  have HR:=hid hr
  have HE:=hid hE
  obtain ⟨n,hnn⟩:∃ n,n=(namedX i.name its).length:=⟨_,rfl⟩
  rw [←hnn] at HNA HR
  have hmI:Mine L lb (w.heap.size+1):=hW.mine (by omega)
  have HMI:=hid hmI
  clear hE hW hr hk hT hb0 hA hT0 hnn hmI
  go_enter Tryz.func153,Tryz.ntmps153
  go_wp2_with fail
  refine (HNA.out _ (Below.refl _ _)).mono ?_
  rintro e w1 ⟨a2',c2,rfl,_,hb1⟩
  have hI1:=below_heap hb1 (heap_lt HI.out) HI.out
  have b2:=heap_cell (i:=2) hI1
  have HB1:=hid hb1
  have HI1:=hid hI1
  have HW1:=hid (HW.out.below hb1)
  have hr:=HR.out
  clear hb1 hI1 HNA HR
  by_cases h2:1 < n
  · have h2':(1:Int) < (n:Int):=by omega
    rw [if_pos h2] at hr
    have HR2:=hid hr
    clear hr
    go_wp2
    go_ret
    exact ⟨_,rfl,by decide,hid ⟨L,lk,st,HR2.out,⟨WNext.refl _ _ _ _ _ |>.below (below_seq HB.out HB1.out),HW1.out⟩⟩⟩
  · have h2':¬ ((1:Int) < (n:Int)):=by omega
    rw [if_neg h2] at hr
    obtain ⟨ty,lk2,st2,hm,hr⟩:=run_getS (by simp) hr
    have HTY:=hid (typeW HE.out HW1.out hm)
    have HR2:=hid hr
    clear hr hm h2
    go_wp2_with fail
    refine HTY.out.mono ?_
    rintro e w2 ⟨rfl,L2,hg⟩
    obtain ⟨hI2,hm2⟩:=hg.n.mine HI1.out HMI.out (fun cs e=>by injection e with _ e;exact absurd e (by decide))
    have c2':=heap_cell (i:=2) hI2
    have HG:=hid ((hg.lift HB1.out).lift HB.out)
    have hr:=HR2.out
    clear hg hI2 hm2 HTY HR2
    cases hv:(ty.toList == [98,97,100]) with
    | true =>
     rw [if_pos (show eqB ty bad_=true from (eqB_lit ty [98,97,100]).trans hv)] at hr
     have HR3:=hid hr
     clear hr
     go_wp2
     go_ret
     exact ⟨_,rfl,by decide,hid ⟨L2,lk2,st2,HR3.out,HG.out⟩⟩
    | false =>
     rw [if_neg (by rw [show eqB ty bad_=false from (eqB_lit ty [98,97,100]).trans hv];exact Bool.noConfusion)] at hr
     rcases run_getV hr with ⟨v,lk3,st3,hm,hr⟩ | ⟨cc,hm,hout,hnc⟩
     · have HVA:=hid (valueW HE.out HG.out.s hm)
       have HR3:=hid hr
       clear hr hm
       go_wp2_with fail
       refine HVA.out.mono ?_
       rintro e w3 ⟨rfl,L3,hg3⟩
       have HG3:=hid (HG.out.trans hg3)
       clear hg3 HVA
       go_wp2_with fail
       refine (worse_any _ v w3).mono ?_
       rintro e w4 ⟨rfl,rfl⟩
       go_wp2
       go_ret
       exact ⟨_,rfl,worse_size v,hid ⟨L3,lk3,st3,HR3.out,HG3.out⟩⟩
     · cases hnc
def ownT (T:TypeId):Bool:=T == 130 || T == 125 || T == 168 || T == 5
def Stays (w w':World):Prop:=(∀ (b:Nat) (cs:Array Value) (T:TypeId),ownT T=false→w.heap[b]? = some (.cells cs T)→w'.heap[b]? = some (.cells cs T))∧∀ (b:Nat) (es:Array MapEntry) (n:Nat),w.heap[b]? = some (.map es n)→w'.heap[b]? = some (.map es n)
theorem TB_own (k:K):ownT (TB k)=false:=by
 unfold TB
 repeat' split
 all_goals decide
theorem Row.stays {O:Nat→Prop} {w w':World} {T:TypeId} {v:Value} {n:Nat} {xs:List Value} (h:Row O w T v n xs) (hT:ownT T=false) (hk:Stays w w'):Row O w' T v n xs:=h.keepT fun b cs=>hk.1 b cs T hT
theorem ValC.stays {O:Nat→Prop} {w w':World} {kind:Nat} {x:Option V} {vs:List Value} (h:ValC O w kind x vs) (hk:Stays w w'):ValC O w' kind x vs:=by
 match x,h with
 | some (.t l),⟨a,v,b,c⟩=>exact ⟨a,v,b,c.stays (by decide) hk⟩
 | some (.r its f),⟨a,v,b,c⟩=>exact ⟨a,v,b,c.stays (by decide) hk⟩
 | some (.x l),⟨a,v,b,c⟩=>exact ⟨a,v,b,c.stays (by decide) hk⟩
 | some (.s b),h=>exact h
 | none,h=>exact h
theorem ENGx.stays {st:St V} {L:Lay} {lp:Option K} {bs:Nat} {fm q sm bg kv:Value} {arr:List K} {w w':World} (h:ENGx st L lp bs fm q sm bg kv arr w) (hs:w.heap.size≤w'.heap.size) (hk:Stays w w'):ENGx st L lp bs fm q sm bg kv arr w':=by
 refine ⟨⟨hk.1 _ _ _ (by decide) h.s,h.bo,fun b hb=>Nat.lt_of_lt_of_le (h.olt b hb) hs,h.sr.keep hk.2,fun f c hf=>⟨(h.srb f c hf).1,hk.1 _ _ _ (by decide) (h.srb f c hf).2⟩,h.sri,h.qm,h.sm.keep hk.2,h.bg.keep fun b cs=>hk.1 b cs _ (by decide),h.kv.keep fun b cs=>hk.1 b cs _ (by decide),h.perm,h.nd,h.kl,h.ex,fun j n hj => ?_⟩,h.heap⟩
 have hc:=h.cell j n hj
 obtain ⟨x,vs,a,b⟩:=hc.ex
 exact ⟨⟨x,vs,hk.1 _ _ _ (TB_own j) a,b.stays hk⟩,hc.own⟩
theorem WS.stays {W0:World} {B bs lb:Nat} {fm:Value} {st0 st:St V} {L0 L:Lay} {w0 w w':World} {lk:List Lk} (h:WS W0 B bs lb fm st0 L0 w0 st L lk w) (h00:W0.heap.size≤w0.heap.size) (hb:Below w0.heap.size w w') (hk:Stays w w'):WS W0 B bs lb fm st0 L0 w0 st L lk w':=by
 obtain ⟨hE,hK,hM,hl0,hb0,hN⟩:=h
 obtain ⟨q,sm,bg,kv,arr,hE⟩:=hE
 obtain ⟨lv,l1,l2,l3⟩:=hK.blk
 refine ⟨⟨q,sm,bg,kv,arr,hE.stays hb.size hk⟩,⟨⟨lv,hk.1 _ _ _ (by decide) l1,own_far l2 fun g hg => ?_,l3⟩,hK.nb,Nat.le_trans hK.ge hb.size,hK.ex,hK.len⟩,⟨hM.sm,hM.mp.imp id fun ⟨b,es,n,h1,h2,h3,h4⟩=>⟨b,es,n,h1,h2,hk.2 b es n h3,h4⟩,hM.low.trans (below_mono h00 hb),hM.ow⟩,hl0,hb0,⟨hN.bk,hN.sb,hN.own,⟨hb.os.trans hN.fr.os,hb.tape.trans hN.fr.tape,hb.output.trans hN.fr.output,Nat.le_trans hN.fr.size hb.size,fun k hk hn=>(hb.block k hk).trans (hN.fr.block k hk hn)⟩⟩⟩
 obtain ⟨cur,e3⟩:=own_cells l2 hg
 rw [e3]
 exact hk.1 _ _ _ (by decide) e3
theorem Stays.set {w:World} {b:Nat} {cs:Array Value} {T:TypeId} (hb:w.heap[b]? = some (.cells cs T)) (hT:ownT T=true) (i:Nat) (u:Value):Stays w (w.setCell ⟨b,i,none⟩ u):=⟨fun c cs' T' hT' hc=>(heap_setCell_ne (fun e=>by
 rw [e,hb] at hc;injection hc with hc;injection hc with _ hc;rw [hc,hT'] at hT;cases hT) _).trans hc,fun c es n hc=>(heap_setCell_ne (fun e=>by rw [e,hb] at hc;injection hc with hc;cases hc) _).trans hc⟩
theorem Stays.below {w w':World} (hb:Below w.heap.size w w'):Stays w w':=⟨fun _ _ _ _ h=>below_heap hb (heap_lt h) h,fun _ _ _ h=>below_heap hb (heap_lt h) h⟩
theorem Stays.trans {a b c:World} (h:Stays a b) (k:Stays b c):Stays a c:=⟨fun _ _ _ hT h'=>k.1 _ _ _ hT (h.1 _ _ _ hT h'),fun _ _ _ h'=>k.2 _ _ _ (h.2 _ _ _ h')⟩
section
variable {W0:World} {E:Eng V} {B bs lb:Nat} {fm:Value} {st0 st st1 st2:St V} {L0 L:Lay} {w0 w:World} {lk lk1 lk2:List Lk} {nc:Bool} {l:List Tok} {its:List Itx} {fl:Option Nat}
def PQ (W0:World) (B bs lb:Nat) (fm:Value) (st0:St V) (L0:Lay) (w0:World) (st:St V) (L:Lay) (w:World) (st1:St V) (lk1:List Lk) (l:List Tok) (ta:Option Addr) (tc:Nat) (its:List Itx) (fl:Option Nat) (ao:Option Addr) (c:Nat) (P:Nat→Prop) (w9:World):Prop :=
 ∃ L',Got W0 B bs lb fm st0 L0 w0 st L w st1 L' lk1 w9∧Row L'.own w9 170 (.slice ta l.length tc) l.length (tokCells l)∧TRow L' w9 ao c its∧(∃ s:ByteArray,s.size≤400∧l=lexAll s)∧(∃ s:ByteArray,s.size≤400∧(its,fl)=treeX (lexAll s))∧∀ b,P b→Mine L' lb b
theorem belowAl {a w:World} (h:Below a.heap.size a w) (o:Obj):Below a.heap.size a (w.alloc o):=h.alloc h.size o
theorem belowDr {a w:World} (h:Below a.heap.size a w):Below a.heap.size a w.drew:=⟨h.os,h.tape,h.output,h.size,h.block⟩
theorem pairPQ (hE:Eng0 W0 E bs fm) (hW:WS W0 B bs lb fm st0 L0 w0 st L lk w) (h0:w0.heap.size≤w.heap.size) (h00:W0.heap.size≤w0.heap.size) {f:ByteArray} (hm:fetC E nc ⟨2,f,nob⟩ lk st=some (.ok (.t l,lk1),st1)) (hm2:fetC E nc ⟨3,f,nob⟩ lk1 st1=some (.ok (.r its fl,lk2),st2)) {A:World} (hA:Below w.heap.size w A) {kb:Nat} {ko:Array Value} (hkb:w.heap.size≤kb) (hk:A.heap[kb]? = some (.cells ko 150)) {z:Int} (hz:faultV fl = .int .i64 z) (W:World) (hb:Below A.heap.size A W) :
 Calls Tryz.prog 72 #[ptr bs,ptr lb, .string f] W fun e w1 => ∃ ta tc,e = .returned (.slice ta l.length tc)∧w1.heap[kb]? = some (.cells ko 150)∧Hid (∀ (b:Nat) (cs:Array Value) (T:TypeId),T≠216→w.heap.size≤b→W.heap[b]? = some (.cells cs T)→w1.heap[b]? = some (.cells cs T)) ∧
  Hid (∀ W2,Below w1.heap.size w1 W2→Calls Tryz.prog 74 #[ptr bs,ptr lb, .string f] W2 fun e w2 => ∃ ao c,e = .returned (.agg #[.slice ao its.length c, .int .i64 z])∧w2.heap[kb]? = some (.cells ko 150)∧Hid (∀ (b:Nat) (cs:Array Value) (T:TypeId),T≠216→(w.heap.size≤b∧b < W.heap.size)∨w1.heap.size≤b→W2.heap[b]? = some (.cells cs T)→w2.heap[b]? = some (.cells cs T)) ∧
   Hid (PQ W0 B bs lb fm st0 L0 w0 st L w st2 lk2 l ta tc its fl ao c (fun b=>(w.heap.size≤b∧b < W.heap.size)∨(w1.heap.size≤b∧b < W2.heap.size)∨w2.heap.size≤b) w2)):=by
 have hkW:W.heap[kb]? = some (.cells ko 150):=below_heap hb (heap_lt hk) hk
 have hb:=below_seq hA hb
 refine (tokensW hE (hW.below hb) hm).mono ?_
 rintro e w1 ⟨ta,tc,rfl,L1,hg,hrow,hs⟩
 have hsz:=hg.n.fr.size
 have hszb:=hb.size
 have hK:∀ (b:Nat) (cs:Array Value) (T:TypeId),T≠216→w.heap.size≤b→W.heap[b]? = some (.cells cs T)→w1.heap[b]? = some (.cells cs T):=fun b cs T hT h1 h2=>(hg.n.mine h2 (hW.mine h1) (fun cs e=>by injection e with _ e;exact hT e)).1
 have hk1:=hK kb _ _ (by decide) hkb hkW
 refine ⟨ta,tc,rfl,hk1,hid hK,hid fun W2 hb2 => ?_⟩
 have hsz2:=hb2.size
 refine (treeW hE (hg.s.below hb2) (by omega) h00 hm2).mono ?_
 rintro e w2 ⟨ao,c,rfl,L2,hg2,hrow2,hs2⟩
 have hsz3:=hg2.n.fr.size
 have hmi1:∀ b,(w.heap.size≤b∧b < W.heap.size)∨w1.heap.size≤b→Mine L1 lb b:=fun b hc=>by
  rcases hc with ⟨h1,h2⟩ | h1
  · refine ⟨fun ho => ?_,(hW.mine h1).2⟩
    rcases hg.n.own b ho with h3 | h3
    · exact (hW.mine h1).1 h3
    · omega
  · exact hg.s.mine h1
 have hmi2:∀ b,(w.heap.size≤b∧b < W.heap.size)∨(w1.heap.size≤b∧b < W2.heap.size)∨w2.heap.size≤b→Mine L2 lb b:=fun b hc=>by
  have key:(w.heap.size≤b∧b < W.heap.size)∨w1.heap.size≤b→b < W2.heap.size→Mine L2 lb b:=fun h1 h2=>by
   refine ⟨fun ho => ?_,(hmi1 b h1).2⟩
   rcases hg2.n.own b ho with h3 | h3
   · exact (hmi1 b h1).1 h3
   · omega
  rcases hc with h1 | h1 | h1
  · exact key (.inl h1) (by omega)
  · exact key (.inr h1.1) h1.2
  · exact hg2.s.mine h1
 have hm2:∀ (b:Nat) (cs:Array Value) (T:TypeId),T≠216→(w.heap.size≤b∧b < W.heap.size)∨w1.heap.size≤b→W2.heap[b]? = some (.cells cs T)→w2.heap[b]? = some (.cells cs T):=fun b cs T hT h1 h2 =>
  (hg2.n.mine h2 (hmi1 b h1) (fun cs e=>by injection e with _ e;exact hT e)).1
 have hk2:=hm2 kb _ _ (by decide) (.inl ⟨hkb,heap_lt hkW⟩) (below_heap hb2 (heap_lt hk1) hk1)
 rw [hz]
 refine ⟨ao,c,rfl,hk2,hid hm2,hid ⟨L2,(hg.lift hb).trans ⟨(hg2.lift hb2).n,hg2.s⟩,?_,hrow2,hs,hs2,hmi2⟩⟩
 obtain ⟨lv,hl,_⟩:=(hg.s.below hb2).k.blk
 exact Row.wnext (Row.below hrow hb2) hg2.n hl (by decide) (by decide)
end
section
variable {P:Program} {w:World}
theorem append_str_at (base:Nat) (t u ty e:TypeId) (i:TypeInfo) (ht:P.underlying t=some (.slice e)) (hu:P.underlying u=some .string) (hi:P.info? e=some i) (hz:i.zero=some (.int .u8 0))
 (hsize:i.size=1) (hby:i.bytes=1) (v:Value) (n:Nat) (xs:List Value) (hown:w.ownsRow base e 1 v n xs) (s:ByteArray)
 (h63:n+s.size≤maxLen) (hbytes:n+s.size≤140737488355328) (hbase:base≤w.heap.size) :
 ∃ v' w',(Builtin.append_ #[t,u] ty #[v, .string s]).run P w = .ok v' w'∧w'.ownsRow base e 1 v' (n+s.size) (xs ++ Lib.strCells s)∧w.grownBy w' v.ownBlock∧(v'.ownBlock=v.ownBlock∨v'.ownBlock=some w.heap.size):=by
 obtain ⟨v',w',hr,h1,h2,h3⟩:=Lib.run_append_own_string (P:=P) w base t u ty e i ht hu hi hz hsize hby v n xs hown s h63 hbytes hbase
 refine ⟨v',w',hr,h1,h2,?_⟩
 have hxl:xs.length=n:=by simpa using hown.1
 rcases id hown.2 with ⟨rfl,rfl⟩ | ⟨g,cap,cur,rfl,hbg,hg,hnc,hcm,hcs,htake⟩
 · by_cases hm:s.size=0
   · left;rw [h3.2 ⟨rfl,hm⟩]
   · have hr2:=run_append_nil_string (P:=P) w t u ty e i (.int .u8 0) ht hu hi hz s (by omega) (by simp only [maxLen] at h63;omega) (by rw [hby];omega)
     rw [hr] at hr2
     injection hr2 with e1 _
     right;rw [e1];rfl
 · by_cases hroom:n+s.size≤cap
   · have hcs':cur.size=cap:=by simpa using hcs
     have hr2:=Lib.run_append_room_string (P:=P) w t u ty e i ht hu hi hsize g n cap cur hg s hroom (by omega)
     rw [hr] at hr2
     injection hr2 with e1 _
     left;rw [e1];rfl
   · have hr2:=Lib.run_append_grow_string (P:=P) w t u ty e i (.int .u8 0) ht hu hi hz ⟨g,0,none⟩ n cap xs (by rw [hsize];simpa using hxl) (hown.cells (g:=g) rfl) s (by omega) (by simp only [maxLen] at h63;omega) (by rw [hby];exact growslice_fits (by omega) (by omega))
     rw [hr] at hr2
     injection hr2 with e1 _
     right;rw [e1];rfl
theorem wpList_append_str_at {ops:Array Oper} {rest:List Oper} {o:Oper} {a:Act} {Q:Exit→Act→World→Prop} (hgd:o.guard=none) (sl x:Operand) (t u:TypeId)
 (ho:o.op = .call { callee := .builtin .append,args:=#[sl,x],argTypes:=#[t,u] })
 (base:Nat) (e:TypeId) (i:TypeInfo) (ht:P.underlying t=some (.slice e)) (hu:P.underlying u=some .string) (hi:P.info? e=some i) (hz:i.zero=some (.int .u8 0))
 (hsize:i.size=1) (hby:i.bytes=1)
 (v:Value) (n:Nat) (xs:List Value) (hs:a.eval sl=v) (hown:w.ownsRow base e 1 v n xs) (s:ByteArray) (hx:a.eval x = .string s)
 (h63:n+s.size≤maxLen) (hbytes:n+s.size≤140737488355328) (hbase:base≤w.heap.size)
 (h:∀ v' w',w'.ownsRow base e 1 v' (n+s.size) (xs ++ Lib.strCells s)→w.grownBy w' v.ownBlock→(v'.ownBlock=v.ownBlock∨v'.ownBlock=some w.heap.size)→wpList P ops Q rest (a.put o.dst v') w'):wpList P ops Q (o :: rest) a w:=by
 refine wpList_plain hgd fun K hK => ?_
 obtain ⟨v',w',hr,h2,h3,h4⟩:=append_str_at (P:=P) base t u o.type e i ht hu hi hz hsize hby v n xs hown s h63 hbytes hbase
 unfold Oper.wp execOp
 simp only [ho,resolve,invoke,builtin,Sem.run_bind,Sem.run_pure,Result.andThen_ok,List.map_toArray,List.map_cons,List.map_nil,hs,hx,hr]
 exact hK _ _ (h v' w' h2 h3 h4)
end
structure MB (N ob:Nat) (s:ByteArray) (v:Value) (w:World):Prop where
 hd:∃ p,(p = .pointer none∨p = .pointer (some ⟨ob,0,none⟩))∧w.heap[ob]? = some (.cells #[p,v] 168)
 row:w.ownsRow N 5 1 v s.size (Lib.strCells s)
 ne:v.ownBlock≠some ob
 lo:N≤ob
structure MW2 (N ob:Nat) (v v':Value) (w w':World):Prop where
 low:Below N w w'
 far:∀ k,k < w.heap.size→k≠ob→v.ownBlock≠some k→w'.heap[k]? = w.heap[k]?
 loc:∀ g,v'.ownBlock=some g→v.ownBlock=some g∨w.heap.size≤g
theorem mbWrite {N ob:Nat} {t:ByteArray} {v:Value} {w:World} (h:MB N ob t v w) (s:ByteArray) (hlen:t.size+s.size≤140737488355328) :
 Calls Tryz.prog 102 #[.pointer (some ⟨ob,0,none⟩), .string s] w fun e w'=>e = .returned (.tuple #[.int .i64 s.size, .nilIface])∧Hid (∃ v',MB N ob (t ++ s) v' w'∧MW2 N ob v v' w w'):=by
 obtain ⟨i0,hi,hz0,hz1,hz2⟩:=info_parts infoU8
 obtain ⟨⟨p,hp,hb⟩,hown,hne,hlo⟩:=h
 have hCK:Calls Tryz.prog 134 #[.pointer (some ⟨ob,0,none⟩)] w fun e w1=>e = .returned (.tuple #[])∧w1.heap[ob]? = some (.cells #[.pointer (some ⟨ob,0,none⟩),v] 168)∧w1.ownsRow N 5 1 v t.size (Lib.strCells t)∧Below N w w1∧w1.heap.size=w.heap.size∧∀ k,k≠ob→w1.heap[k]? = w.heap[k]?:=by
  rcases hp with rfl | rfl
  · refine (bCheck_fresh ob w (heap_cell (i:=0) hb) (by simp [World.shape?,hb]) (heap_frozen hb)).mono ?_
    rintro e w' ⟨rfl,rfl⟩
    exact ⟨rfl,heap_setCell_lit (i:=0) hb _,own_far hown fun g hg=>heap_setCell_ne (fun e=>hne (by rw [←e];exact hg)) _,(Below.refl N w).setCell (p:=⟨ob,0,none⟩) hlo _,by simp,fun k hk=>heap_setCell_ne hk _⟩
  · refine (bCheck_used ob w (heap_cell (i:=0) hb)).mono ?_
    rintro e w' ⟨rfl,rfl⟩
    exact ⟨rfl,hb,hown,Below.refl N _,rfl,fun _ _=>rfl⟩
 have HCK:=hid hCK
 have HLT:=hid (heap_lt hb)
 have hsz:(Lib.strCells t).length=t.size:=Lib.strCells_length t
 clear hCK hown hb hp
 go_enter Tryz.func102,Tryz.ntmps102
 go_wp2_with (go_at_call 134;refine HCK.out.mono ?_)
 rintro e w1 ⟨rfl,hbk,hown,hb1,hs1,hf1⟩
 have hlt:=heap_lt hbk
 have c1:w1.cell? ⟨ob,1,none⟩=some v:=heap_cell hbk
 go_wp2_with (at_builtin;refine wpList_append_str_at rfl _ _ 166 9 rfl N 5 i0 Tryz.underlying166 Tryz.underlying9 hi hz0 hz1 hz2 _ _ _ rfl hown s rfl ?c3 ?c4 ?c5 ?_)
 case c3=>unfold maxLen;omega
 case c4=>omega
 case c5=>omega
 intro v' w2 hown' hgrow hloc
 have hb2:w2.heap[ob]? = some (.cells #[.pointer (some ⟨ob,0,none⟩),v] 168 (0,0)):=by
  rw [hgrow.block ob (by omega) (fun e=>hne e.symm)]
  exact hbk
 have d1:w2.cell? ⟨ob,1,none⟩=some v:=heap_cell hb2
 have f1:w2.frozen? ⟨ob,1,none⟩=false:=heap_frozen hb2
 obtain ⟨ao,cap,rfl⟩:∃ ao cap,v' = .slice ao (t.size+s.size) cap:=by
  rcases hown'.2 with ⟨hv,h0⟩ | ⟨g,cap,cur,hv,_⟩
  · exact ⟨none,0,by rw [hv,h0]⟩
  · exact ⟨_,_,hv⟩
 have hne':(Value.slice ao (t.size+s.size) cap).ownBlock≠some ob:=fun e=>by
  rcases hloc with h1 | h1
  · exact hne (h1.symm.trans e)
  · have:=Option.some.inj (h1.symm.trans e);omega
 have HF:=hid (show ∃ v',MB N ob (t ++ s) v' (w2.setCell ⟨ob,1,none⟩ (.slice ao (t.size+s.size) cap))∧MW2 N ob v v' w (w2.setCell ⟨ob,1,none⟩ (.slice ao (t.size+s.size) cap)) from by
  refine ⟨_,⟨⟨_, .inr rfl,heap_setCell_lit (i:=1) hb2 _⟩,?_,hne',hlo⟩,?_,?_,?_⟩
  · have h1:=own_far (w':=w2.setCell ⟨ob,1,none⟩ (.slice ao (t.size+s.size) cap)) hown' fun g hg=>heap_setCell_ne (fun e=>hne' (by rw [←e];exact hg)) _
    rw [ByteArray.size_append,show Lib.strCells (t ++ s)=Lib.strCells t ++ Lib.strCells s from by simp [Lib.strCells]]
    exact h1
  · exact (hb1.grown hgrow (by omega) (fun k hk=>(hown.lt k hk).1)).setCell (p:=⟨ob,1,none⟩) hlo _
  · intro k hk hko hvk
    rw [heap_setCell_ne hko,hgrow.block k (by omega) (fun e=>hvk e.symm),hf1 k hko]
  · intro g hg
    rcases hloc with h1 | h1
    · exact .inl (h1.symm.trans hg)
    · have:=Option.some.inj (h1.symm.trans hg)
      right;omega)
 clear hown' hgrow hloc hne'
 go_wp2
 go_ret2
 exact ⟨rfl,HF⟩
end Go.Proofs.YtoagooclaphdbaaGreatDoor

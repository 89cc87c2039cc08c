/-
  The library's sort of no text. The program's Exports. findUsed: every file that is used is asked. saidType: the type that a name's item says. Within a work: the items of a name, of a tree that is fetched.
-/
import Derived.Test.YthibodlojlkppaaGreatDoorB21
import Derived.Test.YthibodlojlkppaaGreatDoorB22
import Derived.Test.YthibodlojlkppaaGreatDoorB25
import Derived.Sort.OwnSorted
import Derived.Lib.RowBridge
set_option linter.unusedVariables false
set_option linter.unusedSectionVars false
set_option linter.unusedSimpArgs false
set_option maxRecDepth 100000
set_option maxHeartbeats 40000000

namespace Go.Proofs.YthibodlojlkppaaGreatDoor
open Go.RowKit
theorem len64_0 (w:World):Calls Tryz.prog 112 #[.int .u64 0] w fun e w'=>e = .returned (.int .i64 0)∧w'=w:=by
 go_enter Tryz.func112,Tryz.ntmps112
 go_wp2
 go_ret
 refine ⟨ret_int ?_,rfl⟩
 have h8:Lib.len8 0=0:=by decide +kernel
 rw [h8];simp [wrap64]
theorem len_0 (w:World):Calls Tryz.prog 147 #[.int .u64 0] w fun e w'=>e = .returned (.int .i64 0)∧w'=w:=by
 go_enter Tryz.func147,Tryz.ntmps147
 go_wp2_with fail
 refine (len64_0 _).mono ?_
 rintro e w1 ⟨rfl,rfl⟩
 go_wp2
 go_ret
 exact ⟨rfl,rfl⟩
theorem ins_0 (w:World):Calls Tryz.prog 158 #[.slice none 0 0, .int .i64 0, .int .i64 0] w fun e w'=>e = .returned (.tuple #[])∧w'=w:=by
 go_enter Tryz.func158,Tryz.ntmps158
 go_wp2
 refine wp_loop_rounds 1 ?_
 rw [rounds_succ]
 go_wp2
 go_end0
 exact ⟨rfl,rfl⟩
theorem pdq_0 (w:World):Calls Tryz.prog 146 #[.slice none 0 0, .int .i64 0, .int .i64 0, .int .i64 0] w fun e w'=>e = .returned (.tuple #[])∧w'=w:=by
 go_enter Tryz.func146,Tryz.ntmps146
 go_wp2
 refine wp_loop_rounds 1 ?_
 rw [rounds_succ]
 go_wp2_with fail
 refine (ins_0 _).mono ?_
 rintro e w1 ⟨rfl,rfl⟩
 go_wp2
 refine bodyPost_ret (results_none rfl _ _ _) rfl ?_
 exact ⟨rfl,rfl⟩
theorem sort_nil (w:World):Calls Tryz.prog 126 #[.slice none 0 0] w fun e w'=>e = .returned (.tuple #[])∧w'=w:=by
 go_enter Tryz.func126,Tryz.ntmps126
 go_wp2_with fail
 refine (len_0 _).mono ?_
 rintro e w1 ⟨rfl,rfl⟩
 go_wp2_with fail
 refine (pdq_0 _).mono ?_
 rintro e w1 ⟨rfl,rfl⟩
 go_wp2
 go_end0
 exact ⟨rfl,rfl⟩
end Go.Proofs.YthibodlojlkppaaGreatDoor
namespace Go.Proofs.YthibodlojlkppaaGreatDoor
open Go.RowKit Go.Sort
def pubs (items:List It):List (List UInt8):=(items.filter fun i=>i.kind == 2).map fun i=>i.name.data.toList
def expL (items:List It):List (List UInt8):=Lib.compact ((pubs items).mergeSort fun x y=>decide (x≤y))
theorem pubs_snoc (l:List It) (i:It):pubs (l ++ [i])=pubs l ++ (if i.kind == 2 then [i.name.data.toList] else []):=by
 unfold pubs
 rw [List.filter_append,List.map_append]
 congr 1
 cases h:i.kind == 2 <;> simp [h]
theorem pubs_len (l:List It):(pubs l).length≤l.length:=by
 unfold pubs
 rw [List.length_map]
 exact List.length_filter_le _ _
theorem encStr_name (s:ByteArray):encStr s.data.toList = .string s:=by
 simp [encStr]
theorem infoStr:(Tryz.prog.info? 9).map (fun i=>(i.zero,i.size,i.bytes))=some (some (.string ⟨#[]⟩),1,16):=by kernel_rfl
theorem one_cell (w:World) (b:Nat) (hb:b=w.heap.size) (x:Value) (T:TypeId):∀ j u,[x][j]? = some u→(w.alloc (.cells #[x] T)).cell? ((⟨b,0,none⟩:Addr).add j)=some u:=by
 subst hb;exact cell_one_new w x T
structure EX (items:List It) (ao:Option Addr) (c:Nat) (fault:Value) (w wr:World) (k:Nat) (v:Value):Prop where
 bl:Below w.heap.size w wr
 pr:wr.heap[w.heap.size]? = some (.cells #[.slice ao items.length c,fault] 87)
 own:wr.ownsRow (w.heap.size+1) 9 1 v (pubs (items.take k)).length ((pubs (items.take k)).map encStr)
theorem EX.lt {items:List It} {ao:Option Addr} {c:Nat} {fault:Value} {w wr:World} {k:Nat} {v:Value} (h:EX items ao c fault w wr k v):w.heap.size < wr.heap.size:=heap_lt h.pr
theorem EX.shape {items:List It} {ao:Option Addr} {c:Nat} {fault:Value} {w wr:World} {k:Nat} {v:Value} (h:EX items ao c fault w wr k v):∃ ao m c,v = .slice ao m c:=by
 obtain ⟨_,⟨h,_⟩ | ⟨g,c,_,h,_⟩⟩:=h.own
 · exact ⟨none,0,0,h⟩
 · exact ⟨_,_,_,h⟩
theorem EX.cell {items:List It} {ao:Option Addr} {c g:Nat} {fault:Value} {w wr:World} {k:Nat} {v:Value} (h:EX items ao c fault w wr k v) {cur:Array Value} (hg:w.heap[g]? = some (.cells cur 137 (0,0))) (hc:cur.toList.take (items.length * 5)=items.flatMap itCells) {i:It} (hi:items[k]? = some i) {j:Nat} {u:Value} (hj:(itCells i)[j]? = some u) :
 wr.cell? ⟨g,k * 5+j,none⟩=some u:=by
 have h1:=below_heap h.bl (heap_lt hg) hg
 have hj5:j < 5:=by
  rcases Nat.lt_or_ge j 5 with h5 | h5
  · exact h5
  · simp [itCells,List.getElem?_eq_none (show [Value.int .i64 i.kind, .int .i64 i.num, .string i.name, .string i.typ,i.ex].length≤j by simpa using h5)] at hj
 have h2:=flat5 items k j i hi hj5
 rw [hj] at h2
 have h3:=take_get hc h2
 rw [heap_cell h1,←Array.getElem?_toList,h3]
theorem EX.skip {items:List It} {ao:Option Addr} {c:Nat} {fault:Value} {w wr:World} {k:Nat} {v:Value} (h:EX items ao c fault w wr k v) (hk:k < items.length) {i:It} (hi:items[k]? = some i) (hn:(i.kind == 2)=false) (o:Obj):EX items ao c fault w (wr.alloc o) (k+1) v:=by
 have e:items.take (k+1)=items.take k ++ [i]:=by rw [List.take_add_one,hi];rfl
 refine ⟨h.bl.alloc (Nat.le_of_lt h.lt) _,old_heap _ h.pr,?_⟩
 rw [e,pubs_snoc,hn]
 simpa using h.own.alloc o
theorem EX.put {items:List It} {ao:Option Addr} {c:Nat} {fault:Value} {w wr w':World} {k:Nat} {v v':Value} (h:EX items ao c fault w wr k v) (hk:k < items.length) {i:It} (hi:items[k]? = some i) (hn:(i.kind == 2)=true)
 (hown:w'.ownsRow (w.heap.size+1) 9 1 v' ((pubs (items.take k)).length+1) ((pubs (items.take k)).map encStr ++ [.string i.name])) (hg:wr.grownBy w' v.ownBlock):EX items ao c fault w w' (k+1) v':=by
 have e:items.take (k+1)=items.take k ++ [i]:=by rw [List.take_add_one,hi];rfl
 have hlt:=fun k hk=>(h.own.lt k hk).1
 refine ⟨h.bl.grown hg (Nat.le_of_lt h.lt) (fun k hk=>by have:=hlt k hk;omega),?_,?_⟩
 · exact (hg.block _ h.lt fun e=>by have:=hlt _ e.symm;omega).trans h.pr
 · rw [e,pubs_snoc,hn]
   simpa [encStr_name] using hown
theorem EX.alloc {items:List It} {ao:Option Addr} {c:Nat} {fault:Value} {w wr:World} {k:Nat} {v:Value} (h:EX items ao c fault w wr k v) (o:Obj):EX items ao c fault w (wr.alloc o) k v :=
 ⟨h.bl.alloc (Nat.le_of_lt h.lt) _,old_heap _ h.pr,h.own.alloc _⟩
def ExpPost (E:List (List UInt8)) (w:World):Ending→World→Prop:=fun e w' =>
 Below w.heap.size w w'∧∃ c,(E = []∧e = .returned (.slice none 0 c))∨(∃ g,e = .returned (.slice (some ⟨g,0,none⟩) E.length c)∧E.length≤c∧(w.heap.size≤g∧∃ cs,w'.heap[g]? = some (.cells cs 9))∧∀ (j:Nat) x,E[j]? = some x→w'.cell? ⟨g,j,none⟩=some (.string ⟨x.toArray⟩))
theorem below_grownSome {B g:Nat} {a w w':World} (h:Below B a w) (hg:w.grownBy w' (some g)) (hB:B≤w.heap.size) (hr:B≤g):Below B a w':=h.grown hg hB (fun k hk=>by cases hk;exact hr)
theorem below_putRow {B g:Nat} {a w:World} (h:Below B a w) (hg:B≤g) (q off:Nat) (d:Array (List UInt8)):Below B a (putRow encStr (Sort.ahead w q) g off d):=by
 refine ⟨h.os,h.tape,h.output,by simpa [Sort.ahead] using h.size,fun k hk => ?_⟩
 rw [←h.block k hk]
 have:g≠k:=by omega
 simp [putRow,mapBlock,Sort.ahead,Array.getElem?_modify,this]
theorem mapBlock_at {w:World} {b:Nat} {cs:Array Value} {T:TypeId} (h:w.heap[b]? = some (.cells cs T)) (F:Array Value→Array Value):∃ cs2,(mapBlock w b F).heap[b]? = some (.cells cs2 T):=by
 have hl:=heap_lt h
 refine ⟨F cs,?_⟩
 simp [mapBlock,Array.getElem?_modify,h,onCells]
theorem exports_ao (items:List It) (hn:items.length≤401) (hex:∀ i∈items,i.ex = .nilIface∨∃ T v,i.ex = .iface T v) (fault:Value) (ao:Option Addr) (c:Nat) (w:World)
 (hao:0 < items.length→∃ g cur,ao=some ⟨g,0,none⟩∧w.heap[g]? = some (.cells cur 137 (0,0))∧cur.toList.take (items.length * 5)=items.flatMap itCells) :
 Calls Tryz.prog 98 #[.agg #[.slice ao items.length c,fault]] w (ExpPost (expL items) w):=by
 obtain ⟨i0,hi0,hz0,hz1,hz2⟩:=info_parts infoStr
 have k0:(w.alloc (.cells #[.slice ao items.length c,fault] 87)).cell? ⟨w.heap.size,0,none⟩=some (.slice ao items.length c):=heap_cell (i:=0) (new_heap w _)
 have HAO:=hid hao
 have HEX:=hid hex
 have HE0:Hid (EX items ao c (fault) w (w.alloc (.cells #[.slice ao items.length c,fault] 87)) 0 (.slice none 0 0)):=hid
  ⟨(Below.refl _ _).alloc (Nat.le_refl _) _,new_heap _ _,World.ownsRow_nil _ _ _ _⟩
 clear hao hex
 go_enter Tryz.func98,Tryz.ntmps98
 go_wp2
 go_loopg [3,9] items.length (fun f v v8 wr => ∃ k,k+f=items.length∧v8 = .int .i64 (k:Nat)∧EX items ao c (fault) w wr k v)
 case atStart=>exact ⟨0,by omega,rfl,HE0.out⟩
 case round =>
  clear HE0 k0
  obtain ⟨k,hk,rfl,hext⟩:=hrel
  obtain ⟨no,nm,nc,rfl⟩:=hext.shape
  have HT:=hid hext
  clear hext
  by_cases hlt:k < items.length
  · obtain ⟨g,cur,rfl,hg,hc⟩:=HAO.out (by omega)
    have hi:=List.getElem?_eq_getElem hlt
    have hexi:=HEX.out items[k] (List.getElem_mem hlt)
    generalize hii:items[k]=i at hi hexi
    obtain ⟨ik,inum,inm,ity,iex⟩:=i
    simp only at hexi
    have z0:=HT.out.cell hg hc hi (j:=0) rfl
    have z1:=HT.out.cell hg hc hi (j:=1) rfl
    have z2:=HT.out.cell hg hc hi (j:=2) rfl
    have z3:=HT.out.cell hg hc hi (j:=3) rfl
    have z4:=HT.out.cell hg hc hi (j:=4) rfl
    rw [Nat.add_zero] at z0
    have hlt2:(k:Int) < (items.length:Int):=by omega
    have hkc:(0:Int)≤(k:Int):=by omega
    have HI:=hid hi
    clear hg hc hi hii
    have hown0:=HT.out.own
    have HLEN:=hid (pubs_len (items.take k))
    rcases hexi with rfl | ⟨T,u,rfl⟩
    all_goals
     cases h2:(ik == 2) with
     | false =>
      have hi2:¬ ((ik:Int)=2):=by
       rw [beq_eq_false_iff_ne] at h2;omega
      have hb2:((ik:Int) == 2)=false:=by rw [beq_eq_false_iff_ne];exact hi2
      have HN2:=hid h2
      clear h2 hown0
      go_wp2
      go_roundg (items.length - (k+1))
      case rel=>exact ⟨k+1,by omega,by go_num,HT.out.skip hlt HI.out HN2.out _⟩
      case measure=>omega
     | true =>
      have hi2:((ik:Int)=2):=by
       rw [beq_iff_eq] at h2;omega
      have hb2:((ik:Int) == 2)=true:=by rw [beq_iff_eq];exact hi2
      have HN2:=hid h2
      have HOB:=HT.out.lt
      clear h2
      go_wp2_with (at_builtin;go_must (refine wpList_append_own _ rfl _ _ 25 rfl (w.heap.size+1) 9 i0 (.string ⟨#[]⟩) 1 16 Tryz.underlying25 hi0 hz0 hz1 hz2 rfl (by decide) _ _ _ rfl ((hown0.alloc _).alloc _) ⟨_,0,none⟩ 1 1 [.string inm] rfl rfl (one_cell _ _ (by simp) _ _) ?c2 ?c3 ?c4 ?c5 ?_))
      case c2=>rfl
      case c3=>have:=HLEN.out;simp only [List.length_take] at this;unfold maxLen;omega
      case c4=>have:=HLEN.out;simp only [List.length_take] at this;omega
      case c5=>first | omega | (simp;omega)
      intro v' w4 hown' hgrow _
      have ht4:=((HT.out.alloc _).alloc _).put hlt HI.out HN2.out hown' hgrow
      obtain ⟨ao',m',c',rfl⟩:=ht4.shape
      have HT4:=hid ht4
      clear ht4 hown' hgrow hown0
      go_wp2
      go_roundg (items.length - (k+1))
      case rel=>exact ⟨k+1,by omega,by go_num,HT4.out⟩
      case measure=>omega
  · have hke:k=items.length:=by omega
    subst hke
    have hown:=HT.out.own
    rw [List.take_length] at hown
    have HBL:=hid HT.out.bl
    have HLT:=HT.out.lt
    have HPL:=hid (pubs_len items)
    obtain ⟨hl,⟨hv,h0⟩ | ⟨g,cap,cur,hv,hB,hg,h1,h2,h3,h4⟩⟩:=hown
    · have e1:=(Value.slice.inj hv).1
      have e2:=(Value.slice.inj hv).2.1
      have e3:=(Value.slice.inj hv).2.2
      subst e1;subst e2;subst e3
      have hE:expL items = []:=by
       have:pubs items = []:=List.eq_nil_of_length_eq_zero h0
       unfold expL;rw [this,List.mergeSort_nil];rfl
      have HEE:=hid hE
      clear hv hl h0 hE HT
      go_wp2_with fail
      refine (sort_nil _).mono ?_
      rintro e w1 ⟨rfl,rfl⟩
      go_wp2_with fail
      refine (Tryz.slices_Compact_string_empty none 0 _).mono ?_
      rintro e w2 ⟨rfl,rfl⟩
      go_wp2
      go_ret
      exact ⟨HBL.out,0, .inl ⟨HEE.out,rfl⟩⟩
    · have e1:=(Value.slice.inj hv).1
      have e2:=(Value.slice.inj hv).2.1
      have e3:=(Value.slice.inj hv).2.2
      subst e1;subst e2;subst e3
      have hH:=holds_of_block (ss:=pubs items) hg (by simpa using h4)
      have HH:=hid hH
      have HG:=hid hg
      have HOS:=hid (fun (n:Nat) (os:Array Obj) (ts:List (List UInt8)) (hts:ts.length=(pubs items).length)=>ownsRow_sorted (w:=wr) (base:=w.heap.size+1) (n:=n) (os:=os) (ts:=ts) hts hB hg h1 h2 h3)
      have hglt:=heap_lt hg
      have hle:(pubs items).length≤nc:=h1
      have HGB:=hid hB
      clear hv hl h2 h3 h4 hH hg hB HT h1
      go_wp2_with fail
      refine (Tryz.slices_Sort_string g 0 nc (pubs items) _ HH.out hglt (by have:=HPL.out;omega)).mono ?_
      rintro e w1 ⟨rfl,n,os,hw1⟩
      have hSl:((pubs items).mergeSort fun x y=>decide (x≤y)).length=(pubs items).length:=List.length_mergeSort _
      have hown1:=HOS.out n os _ hSl
      rw [←hw1] at hown1
      have hgb1:wr.grownBy w1 (some g):=by rw [hw1];exact grownBy_sorted _
      have HB1:=hid (below_grownSome HBL.out hgb1 (Nat.le_of_lt HLT) (by have:=HGB.out;omega))
      obtain ⟨S,hS⟩:∃ S,S=(pubs items).mergeSort fun x y=>decide (x≤y):=⟨_,rfl⟩
      rw [←hS] at hown1 hSl
      have hE:expL items=Lib.compact S:=by rw [hS];rfl
      obtain ⟨_,⟨hv1,_⟩ | ⟨g1,cap1,cur1,hv1,_,hg1,_,_,_,h41⟩⟩:=hown1
      · cases hv1
      · have q1:=(Addr.mk.inj (Option.some.inj (Value.slice.inj hv1).1)).1
        have q2:=(Value.slice.inj hv1).2.2
        subst q1;subst q2
        have HH1:=hid (holds_of_block (ss:=S) hg1 (by rw [hSl];simpa using h41))
        have hglt1:=heap_lt hg1
        have HG1:=hid hg1
        have HEE:=hid hE
        clear hw1 hgb1 hv1 hg1 h41 hE hS HH HG HOS
        rw [←hSl] at hle
        go_wp2_with fail
        rw [←hSl]
        refine (Tryz.slices_Compact_string g 0 nc S _ HH1.out (by have:=HPL.out;omega) hle).mono ?_
        rintro e w2 ⟨rfl,q,hw2⟩
        have hcl:=Lib.compact_length_le S
        have HW2:=hid hw2
        clear hw2
        go_wp2
        go_ret
        rw [HEE.out]
        refine ⟨?_,nc, .inr ⟨g,rfl,by omega,?_,?_⟩⟩
        · rw [HW2.out]
          exact below_putRow HB1.out (by have:=HGB.out;omega) _ _ _
        · refine ⟨by have:=HGB.out;omega,?_⟩
          rw [HW2.out]
          exact mapBlock_at (w:=Sort.ahead w1 q) HG1.out _
        · intro j x hx
          have hj:j < (Lib.compact S).length:=(List.getElem?_eq_some_iff.1 hx).1
          have hxe:=(List.getElem?_eq_some_iff.1 hx).2
          have hsize:(Lib.compact S ++ List.replicate (S.length - (Lib.compact S).length) []).toArray.size=S.toArray.size:=by simp;omega
          have:=cell?_putRow encStr (Sort.ahead w1 q) g 0 S.toArray (Lib.compact S ++ List.replicate (S.length - (Lib.compact S).length) []).toArray HH1.out hsize j (by rw [hsize];simp;omega)
          rw [HW2.out]
          rw [Nat.zero_add] at this
          rw [this,getElem!_pos _ j (by rw [hsize];simp;omega)]
          simp [encStr,List.getElem_append_left hj,hxe]
end Go.Proofs.YthibodlojlkppaaGreatDoor
namespace Go.Proofs.YthibodlojlkppaaGreatDoor
open Go.RowKit
variable [DecidableEq K] [LawfulBEq Lk]
theorem expX_len (its:List Itx):(expX its).length≤its.length:=by
 unfold expX
 rw [List.length_map]
 refine Nat.le_trans (Lib.compact_length_le _) ?_
 rw [List.length_mergeSort]
 unfold pubsX
 rw [List.length_map]
 exact List.length_filter_le _ _
theorem its_len {s:ByteArray} (hs:s.size≤400) {its:List Itx} {fl:Option Nat} (h:(its,fl)=treeX (lexAll s)):its.length≤401:=by
 have h1:=(treeX_ok (lexAll s)).2
 have h2:=(lexWf s hs).1.le
 rw [←h] at h1
 exact Nat.le_trans h1 h2
theorem row_strs {O:Nat→Prop} {w:World} {ao:Option Addr} {c:Nat} {l:List ByteArray} (h:Row O w 9 (.slice ao l.length c) l.length (l.map .string)):∀ (i:Nat) t,l[i]? = some t→∃ g,ao=some ⟨g,0,none⟩∧w.cell? ⟨g,i,none⟩=some (.string t):=by
 intro i t hi
 have hlt:=(List.getElem?_eq_some_iff.1 hi).1
 obtain ⟨a,b,e,h1,h2⟩:=h
 injection e with e1 e2 e3
 obtain ⟨g,cur,h3,h4,h5,h6⟩:=h2 (by omega)
 refine ⟨g,e1.trans h3,?_⟩
 have h7:(l.map Value.string)[i]? = some (.string t):=by rw [List.getElem?_map,hi];rfl
 have h8:=take_get h6 h7
 rw [heap_cell h5,←Array.getElem?_toList,h8]
theorem flat5n_len:∀ l:List It,(l.flatMap itCells).length=l.length * 5
 | []=>rfl
 | i :: l=>by
  rw [List.flatMap_cons,List.length_append,flat5n_len l,List.length_cons]
  simp [itCells]
  omega
theorem trow_at {L:Lay} {w:World} {ao:Option Addr} {c:Nat} {its:List Itx} (h:TRow L w ao c its):0 < its.length→∃ g cur,ao=some ⟨g,0,none⟩∧w.heap[g]? = some (.cells cur 137 (0,0))∧cur.toList.take (its.length * 5)=(its.map itOf).flatMap itCells:=by
 intro hp
 obtain ⟨a,b,e,h1,h2⟩:=h
 injection e with e1 e2 e3
 obtain ⟨g,cur,h3,h4,h5,h6⟩:=h2 hp
 refine ⟨g,cur,e1.trans h3,h5,?_⟩
 rw [show its.length * 5=((its.map itOf).flatMap itCells).length from ?_]
 · exact h6
 · rw [flat5n_len,List.length_map]
theorem namedT {L:Lay} {w:World} {ao:Option Addr} {c:Nat} {its:List Itx} (hT:TRow L w ao c its) (hn:its.length≤401) (nm:ByteArray) (fault:Value) (W:World) (hb:Below w.heap.size w W) :
 Calls Tryz.prog 100 #[.agg #[.slice ao its.length c,fault], .string nm] W fun e w' => ∃ a2 c2,e = .returned (.slice a2 (namedX nm its).length c2)∧w'.ownsRow (W.heap.size+1) 137 5 (.slice a2 (namedX nm its).length c2) (namedX nm its).length (((namedX nm its).map itOf).flatMap itCells)∧Below W.heap.size W w':=by
 have h:=named_any nm (its.map itOf) (by simpa using hn) (fun i hi=>by
  obtain ⟨j,_,rfl⟩:=List.mem_map.1 hi
  exact exV_shape j) fault ao c W (by
   have:=trow_at (Row.below hT hb)
   simpa using this)
 rw [List.length_map] at h
 refine h.mono ?_
 rintro e w' ⟨v,rfl,hown,hb2⟩
 rw [named_map,List.length_map] at hown
 obtain ⟨a2,c2,rfl⟩:=own_shape hown
 exact ⟨a2,c2,rfl,hown,hb2⟩
theorem findUsedC {W0:World} {B bs lb:Nat} {fm:Value} {st0 st1:St V} {L0 L1:Lay} {w0 w1:World} {lk1:List Lk} {E:Eng V} (hE:Eng0 W0 E bs fm) (hW:WS W0 B bs lb fm st0 L0 w0 st1 L1 lk1 w1) {nm:ByteArray} {nc:Bool} {out:Out (V × List Lk)} {st':St V} {its:List Itx} {fl:Value} {ao:Option Addr} {c:Nat} (hT:TRow L1 w1 ao c its) (hn:its.length≤401)
 (hr:run E nc (usedP nm (fun r => .ret (.s r)) (usesX its []) none_) lk1 st1=some (out,st')) :
 Calls Tryz.prog 101 #[ptr bs,ptr lb, .agg #[.slice ao its.length c,fl], .string nm] w1 fun e w'=>(∃ b,e = .returned (.string b))∧Hid (WkPost B st0 L0 bs lb fm 5 out st' w0 e w'):=by
 have HU:=hid (fun (W:World) (hb:Below w1.heap.size w1 W)=>uses_any its hn fl ao c W (trow_at (Row.below hT hb)))
 have HW:=hid hW
 have HR:=hid hr
 clear hW hr hT
 go_enter Tryz.func101,Tryz.ntmps101
 go_wp2_with fail
 refine (HU.out _ (by first | exact Below.refl _ _ | exact below_newK _ _)).mono ?_
 rintro e w2 ⟨ua,uc,rfl,hown,hb⟩
 obtain ⟨fs,hfs⟩:∃ fs,fs=usesX its []:=⟨_,rfl⟩
 rw [←hfs] at hown HR ⊢
 have hbb:=below_seq (below_newK w1 _) hb
 have hlen:fs.length≤401:=by rw [hfs];have:=usesX_len its [];simp at this;omega
 have HS0:=hid (HW.out.below hbb)
 have HF0:=hid (row_of_own (O:=L1.own) hown fun g hg=>HW.out.e.lt (by simp at hg;omega))
 clear hown hb hbb HU HW hfs
 go_wp2
 go_loopg [9,15] fs.length (fun f vf vi wr => ∃ (k:Nat) (found:ByteArray) (st:St V) (L:Lay) (lk:List Lk),k+f=fs.length∧vf = .string found∧vi = .int .i64 (k:Nat)∧WS W0 B bs lb fm st0 L0 w0 st L lk wr∧Row L.own wr 9 (.slice ua fs.length uc) fs.length (fs.map .string)∧run E nc (usedP nm (fun r => .ret (.s r)) (fs.drop k) found) lk st=some (out,st'))
 case atStart=>exact ⟨0,none_,st1,L1,lk1,by omega,rfl,rfl,HS0.out,HF0.out,HR.out⟩
 case round =>
  clear HS0 HF0 HR
  obtain ⟨k,found,st,L,lk,hk,rfl,rfl,hW,hF,hr⟩:=hrel
  have hkc:(0:Int)≤(k:Int):=by omega
  by_cases hlt:k < fs.length
  · have hlt2:(k:Int) < (fs.length:Int):=by omega
    obtain ⟨fk,hfk⟩:∃ fk,fs[k]? = some fk:=⟨fs[k],List.getElem?_eq_getElem hlt⟩
    have hd:fs.drop k=fk :: fs.drop (k+1):=by
     rw [List.drop_eq_getElem_cons hlt]
     congr 1
     rw [List.getElem?_eq_getElem hlt] at hfk
     injection hfk
    rw [hd] at hr
    obtain ⟨xs,lk2,st2,hm,hr⟩:=run_getX hr
    obtain ⟨g,rfl,hc⟩:=row_strs hF k fk hfk
    have HX:=hid (exportsW hE hW hm)
    have HWW:=hid hW
    have HF:=hid hF
    have HR:=hid hr
    have HK:=hid hk
    clear hW hF hm hr hfk hd hk
    go_wp2_with fail
    refine HX.out.mono ?_
    rintro e w3 ⟨xa,xc,rfl,L3,hg,hrow,s,hs,hxs⟩
    have hxl:xs.length≤1099511627776:=by
     rw [hxs]
     have h1:=expX_len (treeX (lexAll s)).1
     have h2:=(treeX_ok (lexAll s)).2
     have h3:=(lexWf s hs).1.le
     omega
    have HCO:=hid (containsStr (c:=xc) hxl (row_strs hrow) nm)
    obtain ⟨lv,hlb,_⟩:=HWW.out.k.blk
    have HF3:=hid (HF.out.wnext hg.n hlb (by decide) (by decide))
    have HS3:=hid hg.s
    clear hg hrow hs hxs hxl hlb HX HWW HF hc
    go_wp2_with fail
    refine HCO.out.mono ?_
    rintro e w4 ⟨rfl,m,hm4⟩
    have hb4:Below w3.heap.size w3 w4:=by rw [hm4];exact below_drewN w3 m
    have HS4:=hid (HS3.out.below hb4)
    have HF4:=hid (Row.below HF3.out hb4)
    clear hm4 hb4 HS3 HF3 HCO
    cases hmem:memB xs nm with
    | false =>
     have HR2:=HR.out
     rw [hmem] at HR2
     have HR2:=hid HR2
     clear hmem HR
     go_wp2
     go_roundg (fs.length - (k+1))
     case rel=>exact ⟨k+1,found,st2,L3,lk2,by have:=HK.out;omega,rfl,by go_num,HS4.out,HF4.out,HR2.out⟩
     case measure=>have:=HK.out;omega
    | true =>
     have HR2:=HR.out
     rw [hmem] at HR2
     simp only [if_true] at HR2
     clear hmem HR
     cases hfd:(found.toList == [110,111,110,101]) with
     | true =>
      rw [show eqB found none_=true from (eqB_lit found [110,111,110,101]).trans hfd] at HR2
      have HR3:=hid HR2
      clear HR2
      go_wp2
      go_roundg (fs.length - (k+1))
      case rel=>exact ⟨k+1,fk,st2,L3,lk2,by have:=HK.out;omega,rfl,by go_num,HS4.out,HF4.out,HR3.out⟩
      case measure=>have:=HK.out;omega
     | false =>
      rw [show eqB found none_=false from (eqB_lit found [110,111,110,101]).trans hfd] at HR2
      have HR3:=hid HR2
      clear HR2
      go_wp2
      go_roundg (fs.length - (k+1))
      case rel=>exact ⟨k+1,two_,st2,L3,lk2,by have:=HK.out;omega,rfl,by go_num,HS4.out,HF4.out,HR3.out⟩
      case measure=>have:=HK.out;omega
  · have hke:k=fs.length:=by omega
    have hlt2:¬ ((k:Int) < (fs.length:Int)):=by omega
    rw [hke,List.drop_length] at hr
    obtain ⟨rfl,rfl⟩:=run_ret hr
    have HW2:=hid hW
    clear hW hF hr
    go_wp2
    go_ret
    exact ⟨⟨_,rfl⟩,hid (HW2.out.doneS (kind:=5) (by decide) (by decide) (by decide) _)⟩
def Cont (W0:World) (B bs lb:Nat) (fm:Value) (st0:St V) (L0:Lay) (w0:World) (st:St V) (L:Lay) (w:World) (E:Eng V) (nc:Bool) (out:Out (V × List Lk)) (stE:St V) (c:ByteArray→Prog V):Ending→World→Prop:=fun e w' =>
 ∃ t,e = .returned (.string t)∧Hid (∃ L' lk' st',run E nc (c t) lk' st'=some (out,stE)∧Got W0 B bs lb fm st0 L0 w0 st L w st' L' lk' w')
theorem Got.trans {W0:World} {B bs lb:Nat} {fm:Value} {st0 st st1 st2:St V} {L0 L L1 L2:Lay} {w0 w w1 w2:World} {lk1 lk2:List Lk} (h:Got W0 B bs lb fm st0 L0 w0 st L w st1 L1 lk1 w1) (g:Got W0 B bs lb fm st0 L0 w0 st1 L1 w1 st2 L2 lk2 w2):Got W0 B bs lb fm st0 L0 w0 st L w st2 L2 lk2 w2:=⟨h.n.trans g.n,g.s⟩
theorem own_item {w:World} {B a c:Nat} {ao:Option Addr} {n:Nat} {l:List Itx} (h:w.ownsRow B 137 5 (.slice ao n c) n ((l.map itOf).flatMap itCells)) (hn:n=l.length) {i:Itx} (hi:l[a]? = some i) {j:Nat} {u:Value} (hj:(itCells (itOf i))[j]? = some u):∃ g,ao=some ⟨g,0,none⟩∧w.cell? ⟨g,a * 5+j,none⟩=some u:=by
 have hlt:=(List.getElem?_eq_some_iff.1 hi).1
 have hi2:(l.map itOf)[a]? = some (itOf i):=by rw [List.getElem?_map,hi];rfl
 have hj5:j < 5:=by
  rcases Nat.lt_or_ge j 5 with h5 | h5
  · exact h5
  · simp [itCells,List.getElem?_eq_none (show [Value.int .i64 (itOf i).kind, .int .i64 (itOf i).num, .string (itOf i).name, .string (itOf i).typ,(itOf i).ex].length≤j by simpa using h5)] at hj
 obtain ⟨_,⟨h1,h0⟩ | ⟨g,c',cur,h1,h2,h3,h4,h5,h6,h7⟩⟩:=h
 · omega
 · injection h1 with e1 e2 e3
   have h8:=flat5n (l.map itOf) a j (itOf i) hi2 hj5
   rw [hj] at h8
   have h9:=take_get h7 h8
   exact ⟨g,e1,by rw [heap_cell h3,←Array.getElem?_toList,h9]⟩
theorem saidC {W0:World} {B bs lb:Nat} {fm:Value} {st0 st:St V} {L0 L:Lay} {w0 w:World} {lk:List Lk} {E:Eng V} (hE:Eng0 W0 E bs fm) (hW:WS W0 B bs lb fm st0 L0 w0 st L lk w) (h0:w0.heap.size≤w.heap.size) (h00:W0.heap.size≤w0.heap.size) {f nm:ByteArray} {c:ByteArray→Prog V} {nc:Bool} {out:Out (V × List Lk)} {st':St V} (hr:run E nc (saidP f nm c) lk st=some (out,st')) :
 Calls Tryz.prog 103 #[ptr bs,ptr lb, .string f, .string nm] w (Cont W0 B bs lb fm st0 L0 w0 st L w E nc out st' c):=by
 obtain ⟨g,lk1,st1,hm,hr⟩:=run_getS (by simp) hr
 have HFI:=hid (findW hE hW hm)
 have HR:=hid hr
 have H0:=hid h0
 clear hW hr hm h0
 go_enter Tryz.func103,Tryz.ntmps103
 go_wp2_with fail
 refine HFI.out.mono ?_
 rintro e w1 ⟨rfl,L1,hg1⟩
 have HG1:=hid hg1
 clear hg1 HFI
 go_wp2_with fail
 refine (isFile_any g w1).mono ?_
 rintro e w2 ⟨rfl,rfl⟩
 cases hfb:fileB g with
 | false =>
  have hr:=HR.out
  rw [hfb] at hr
  simp only [Bool.false_eq_true,if_false] at hr
  have HR2:=hid hr
  clear hfb hr HR
  go_wp2
  go_ret
  exact ⟨_,rfl,hid ⟨L1,lk1,st1,HR2.out,HG1.out⟩⟩
 | true =>
  have hr:=HR.out
  rw [hfb] at hr
  simp only [if_true] at hr
  obtain ⟨its,fl,lk2,st2,hm,hr⟩:=run_getR hr
  have HT:=hid (treeW hE HG1.out.s (Nat.le_trans H0.out HG1.out.n.fr.size) h00 hm)
  have HR2:=hid hr
  clear hfb hr HR hm
  go_wp2_with fail
  refine HT.out.mono ?_
  rintro e w3 ⟨ao,ac,rfl,L3,hg3,hrow,s,hs,hits⟩
  have HG3:=hid (HG1.out.trans hg3)
  have HNA:=hid (namedT hrow (its_len hs hits) nm (faultV fl) w3 (Below.refl _ _))
  clear hg3 hrow hs hits HT
  go_wp2_with fail
  refine HNA.out.mono ?_
  rintro e w4 ⟨a2,c2,rfl,hown,hb4⟩
  have HG4:=hid (HG3.out.below hb4)
  obtain ⟨l,hl⟩:∃ l,l=namedX nm its:=⟨_,rfl⟩
  have hr:=HR2.out
  rw [←hl] at hr hown ⊢
  clear hl hb4 HNA HR2 HG3
  cases l with
  | nil =>
   have HR3:=hid hr
   clear hr hown
   simp only [List.length_nil]
   go_wp2
   go_ret
   exact ⟨_,rfl,hid ⟨L3,lk2,st2,HR3.out,HG4.out⟩⟩
  | cons i l =>
   cases l with
   | nil =>
    have HR3:=hid hr
    obtain ⟨gb,rfl,hc⟩:=own_item (a:=0) hown rfl rfl (j:=3) (u := .string i.typ) rfl
    clear hr hown
    simp only [List.length_cons,List.length_nil]
    go_wp2
    go_ret
    exact ⟨_,rfl,hid ⟨L3,lk2,st2,HR3.out,HG4.out⟩⟩
   | cons j l =>
    have HR3:=hid hr
    simp only [List.length_cons] at hown ⊢
    obtain ⟨n,hn⟩:∃ n,n=l.length+1+1:=⟨_,rfl⟩
    rw [←hn]
    have h1:((n:Int) == 1)=false:=by rw [beq_eq_false_iff_ne];omega
    clear hr hown hn
    go_wp2
    go_ret
    exact ⟨_,rfl,hid ⟨L3,lk2,st2,HR3.out,HG4.out⟩⟩
section
variable {W0:World} {E:Eng V} {B bs lb:Nat} {fm:Value} {st0 st st1:St V} {L0 L:Lay} {w0 w:World} {lk lk1:List Lk} {nc:Bool} {its:List Itx} {fl:Option Nat}
def NTQ (W0:World) (B bs lb:Nat) (fm:Value) (st0:St V) (L0:Lay) (w0:World) (st:St V) (L:Lay) (w:World) (st1:St V) (lk1:List Lk) (its:List Itx) (fl:Option Nat) (nm:ByteArray) (kb:Nat) (ko:Obj) (a2:Option Addr) (c2:Nat) (w2:World):Prop :=
 w2.heap[kb]? = some ko∧∃ L',Got W0 B bs lb fm st0 L0 w0 st L w st1 L' lk1 w2∧Mine L' lb kb∧TRow L' w2 a2 c2 (namedX nm its)∧∃ s:ByteArray,s.size≤400∧(its,fl)=treeX (lexAll s)
theorem namedTree (hE:Eng0 W0 E bs fm) (hW:WS W0 B bs lb fm st0 L0 w0 st L lk w) (h0:w0.heap.size≤w.heap.size) (h00:W0.heap.size≤w0.heap.size) {f nm:ByteArray} (hm:fetC E nc ⟨3,f,nob⟩ lk st=some (.ok (.r its fl,lk1),st1)) {z:Int} (hz:faultV fl = .int .i64 z) {A:World} (hA:Below w.heap.size w A) {kb:Nat} {ko:Obj} (hk:A.heap[kb]? = some ko) (hkm:Mine L lb kb) (hko:∀ cs,ko ≠ .cells cs 169) :
 ∀ W,Drawn A W→Calls Tryz.prog 41 #[ptr bs,ptr lb, .string f] W fun e w1 => ∃ ao c,e = .returned (.agg #[.slice ao its.length c, .int .i64 z])∧w1.heap[kb]? = some ko ∧
  Hid (∀ W2,Drawn w1 W2→Calls Tryz.prog 100 #[.agg #[.slice ao its.length c, .int .i64 z], .string nm] W2 fun e w2 => ∃ a2 c2,e = .returned (.slice a2 (namedX nm its).length c2)∧Hid (NTQ W0 B bs lb fm st0 L0 w0 st L w st1 lk1 its fl nm kb ko a2 c2 w2)):=by
 intro W hW1
 have hb:=below_seq hA hW1.below
 refine (treeW hE (hW.below hb) (Nat.le_trans h0 hb.size) h00 hm).mono ?_
 rintro e w1 ⟨ao,c,rfl,L1,hg,hrow,s,hs,hits⟩
 have hkW:W.heap[kb]? = some ko:=by rw [hW1.h];exact hk
 obtain ⟨hk1,hkm1⟩:=hg.n.mine hkW hkm hko
 rw [hz]
 refine ⟨ao,c,rfl,hk1,hid fun W2 hW2 => ?_⟩
 refine (namedT hrow (its_len hs hits) nm (.int .i64 z) W2 hW2.below).mono ?_
 rintro e w2 ⟨a2,c2,rfl,hown,hb2⟩
 have hbb:=below_seq hW2.below hb2
 refine ⟨a2,c2,rfl,hid ⟨below_heap hbb (heap_lt hk1) hk1,L1,(hg.lift hb).below hbb,hkm1,row_of_own hown fun g hg2=>hg.s.e.lt (by have:=hW2.below.size;omega),s,hs,hits⟩⟩
theorem trow_item {L:Lay} {w:World} {a2:Option Addr} {c2:Nat} {l:List Itx} (h:TRow L w a2 c2 l) {a:Nat} {i:Itx} (hi:l[a]? = some i) {j:Nat} {u:Value} (hj:(itCells (itOf i))[j]? = some u):∃ g,a2=some ⟨g,0,none⟩∧w.cell? ⟨g,a * 5+j,none⟩=some u:=by
 have hlt:=(List.getElem?_eq_some_iff.1 hi).1
 obtain ⟨g,cur,h1,h2,h3⟩:=trow_at h (by omega)
 have hi2:(l.map itOf)[a]? = some (itOf i):=by rw [List.getElem?_map,hi];rfl
 have hj5:j < 5:=by
  rcases Nat.lt_or_ge j 5 with h5 | h5
  · exact h5
  · simp [itCells,List.getElem?_eq_none (show [Value.int .i64 (itOf i).kind, .int .i64 (itOf i).num, .string (itOf i).name, .string (itOf i).typ,(itOf i).ex].length≤j by simpa using h5)] at hj
 have h8:=flat5n (l.map itOf) a j (itOf i) hi2 hj5
 rw [hj] at h8
 have h9:=take_get h3 h8
 exact ⟨g,h1,by rw [heap_cell h2,←Array.getElem?_toList,h9]⟩
theorem named_ok {nm:ByteArray} {i:Itx} {l:List Itx} {s:ByteArray} (hs:s.size≤400) (hits:(its,fl)=treeX (lexAll s)) (hl:i :: l=namedX nm its) {e:Ex} (he:i.ex=some e):numsOk e∧sizeX e≤401∧(i.typ=int_∨i.typ=bool_):=by
 have hi:i∈namedX nm its:=by rw [←hl];simp
 obtain ⟨h1,h2,h3⟩:=mem_named hi
 have hit:its=(treeX (lexAll s)).1:=by rw [←hits]
 rw [hit] at h1
 have hok:=(treeX_ok (lexAll s)).1 i h1
 obtain ⟨_,ht,e2,he2,hz,_⟩:=hok.let' h2
 rw [he] at he2
 cases he2
 exact ⟨treeX_nums i h1 e he,Nat.le_trans hz (lexWf s hs).1.le,ht⟩
end
theorem namesX_nodup:∀ (e:Ex) (l:List ByteArray),l.Nodup→(namesX e l).Nodup
 | ⟨.inl _,_⟩,l,h=>h
 | ⟨.inr (.inl _),_⟩,l,h=>h
 | ⟨.inr (.inr (.inl t)),_⟩,l,h=>by
  simp only [namesX,two,three]
  split
  · exact h
  · rename_i hn
    rw [List.nodup_append]
    exact ⟨h,by simp,fun x hx y hy=>by
     simp at hy;subst hy;intro e
     exact hn (memB_iff.2 (e ▸ hx))⟩
 | ⟨.inr (.inr (.inr (.inl _))),s'⟩,l,h=>namesX_nodup (s' true) _ (namesX_nodup (s' false) l h)
 | ⟨.inr (.inr (.inr (.inr _))),s'⟩,l,h=>namesX_nodup (s' (some true)) _ (namesX_nodup (s' (some false)) _ (namesX_nodup (s' none) l h))
theorem nodup_take {l:List ByteArray} (h:l.Nodup) {k:Nat} {x:ByteArray} (hk:l[k]? = some x):x ∉ l.take k:=by
 intro hm
 have hlt:=(List.getElem?_eq_some_iff.1 hk).1
 have e:l=l.take k ++ l.drop k:=(List.take_append_drop k l).symm
 have hd:x∈l.drop k:=by
  rw [List.drop_eq_getElem_cons hlt,(List.getElem?_eq_some_iff.1 hk).2]
  exact List.mem_cons_self
 rw [e,List.nodup_append] at h
 exact h.2.2 x hm x hd rfl
end Go.Proofs.YthibodlojlkppaaGreatDoor

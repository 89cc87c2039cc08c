/-
  The document's parser: its state; next. The document's parser: pass, name. The document's parser: name. The document's number: without noughts ahead. The document's text of an expr. The document's exprs and the program's: which is which. The document's text of an expr: sums, products, choices. The engine in memory. The engine in memory: steps that keep it. The sessions at a first Set of the file a
-/
import Derived.Test.YthibodlojlkppaaGreatDoorB01
import Derived.Test.YthibodlojlkppaaGreatDoorB03
import Derived.Test.YthibodlojlkppaaGreatDoorB04
import Derived.Test.YthibodlojlkppaaGreatDoorB07
import Derived.Test.YthibodlojlkppaaGreatDoorShelf
import Derived.Deep.RegionHeld3
import Derived.Laws.IdiomStrings
import Derived.Laws.OwnMore
import Derived.Deep.Onto
import Derived.WalkKit
import Derived.WalkSpells
import Derived.WalkLawsBesides
import Derived.Handy
import Derived.Deep.RegionWith
import Derived.Maps.OwnSet
set_option linter.unusedVariables false
set_option linter.unusedSectionVars false
set_option linter.unusedSimpArgs false
set_option maxRecDepth 100000
set_option maxHeartbeats 40000000

namespace Go.Proofs.YthibodlojlkppaaGreatDoor
open Go.RowKit
structure RP (toks:List Tok) (rb tb cap:Nat) (a nest:Nat) (no:Bool) (hp:Array Obj):Prop where
 ne:tb≠rb
 p:hp[rb]? = some (.cells #[.slice (some ⟨tb,0,none⟩) toks.length cap, .int .i64 a, .int .i64 nest, .bool no] 999999999)
 t:∃ cur,hp[tb]? = some (.cells cur 999999999)∧cur.toList.take (3 * toks.length)=tokCells toks
section
variable {toks:List Tok} {rb tb cap a nest:Nat} {no:Bool} {w:World}
theorem RP.c0 (h:RP toks rb tb cap a nest no w.heap):w.cell? ⟨rb,0,none⟩=some (.slice (some ⟨tb,0,none⟩) toks.length cap):=heap_cell h.p
theorem RP.c1 (h:RP toks rb tb cap a nest no w.heap):w.cell? ⟨rb,1,none⟩=some (.int .i64 a):=heap_cell h.p
theorem RP.c2 (h:RP toks rb tb cap a nest no w.heap):w.cell? ⟨rb,2,none⟩=some (.int .i64 nest):=heap_cell h.p
theorem RP.c3 (h:RP toks rb tb cap a nest no w.heap):w.cell? ⟨rb,3,none⟩=some (.bool no):=heap_cell h.p
theorem RP.f (h:RP toks rb tb cap a nest no w.heap) (i:Nat):w.frozen? ⟨rb,i,none⟩=false:=heap_frozen h.p
theorem RP.below {w':World} (h:RP toks rb tb cap a nest no w.heap) (hb:Below w.heap.size w w'):RP toks rb tb cap a nest no w'.heap:=by
 obtain ⟨cur,hc,ht⟩:=h.t
 exact ⟨h.ne,below_heap hb (heap_lt h.p) h.p,cur,below_heap hb (heap_lt hc) hc,ht⟩
theorem RP.at (h:RP toks rb tb cap a nest no w.heap) (b:Nat):RP toks rb tb cap b nest no (w.setCell ⟨rb,1,none⟩ (.int .i64 b)).heap:=by
 obtain ⟨cur,hc,ht⟩:=h.t
 exact ⟨h.ne,heap_setCell_lit (i:=1) h.p _,cur,(heap_setCell_ne h.ne _).trans hc,ht⟩
end
def Lst (sl:Value) (ls:List ByteArray) (w:World):Prop :=
 (sl = .slice none 0 0∧ls = [])∨∃ lb cur T,sl = .slice (some ⟨lb,0,none⟩) ls.length ls.length∧0 < ls.length∧ls.length≤9∧w.heap[lb]? = some (.cells cur T)∧∀ i,i < ls.length→cur[i]? = some (.string (ls.getD i ByteArray.empty))
theorem Lst.below {sl:Value} {ls:List ByteArray} {w w':World} (h:Lst sl ls w) (hb:Below w.heap.size w w'):Lst sl ls w':=by
 rcases h with h | ⟨lb,cur,T,h1,h2,h3,h4,h5⟩
 · exact .inl h
 · exact .inr ⟨lb,cur,T,h1,h2,h3,below_heap hb (heap_lt h4) h4,h5⟩
theorem Lst.nil (w:World):Lst (.slice none 0 0) [] w := .inl ⟨rfl,rfl⟩
def strip:List UInt8→List UInt8
 | [] => []
 | [c] => [c]
 | c :: d :: r=>if c.toNat=48 then strip (d :: r) else c :: d :: r
def stripT (t:ByteArray):ByteArray:=⟨⟨strip t.data.toList⟩⟩
structure Later (K:Nat→Prop) (w w':World):Prop where
 size:w.heap.size≤w'.heap.size
 block:∀ k,k < w.heap.size→K k→w'.heap[k]? = w.heap[k]?
theorem Later.refl (K:Nat→Prop) (w:World):Later K w w:=⟨Nat.le_refl _,fun _ _ _=>rfl⟩
theorem Later.trans {K:Nat→Prop} {a b c:World} (h:Later K a b) (k:Later K b c):Later K a c :=
 ⟨Nat.le_trans h.size k.size,fun i hi hn=>(k.block i (Nat.lt_of_lt_of_le hi h.size) hn).trans (h.block i hi hn)⟩
theorem Later.of_below {K:Nat→Prop} {a b:World} (k:Below a.heap.size a b):Later K a b:=⟨k.size,fun i hi _=>k.block i hi⟩
theorem Later.below {K:Nat→Prop} {a b c:World} (h:Later K a b) (k:Below b.heap.size b c):Later K a c:=h.trans (.of_below k)
theorem Later.alloc {K:Nat→Prop} {a b:World} (h:Later K a b) (o:Obj):Later K a (b.alloc o):=h.below ((Below.refl _ _).alloc (Nat.le_refl _) _)
theorem Later.set {K:Nat→Prop} {a b:World} (h:Later K a b) {p:Addr} (hp:¬ K p.block) (v:Value):Later K a (b.setCell p v) :=
 ⟨by have:=h.size;simpa using this,fun k hk hn=>(Below.heap_setCell _ _ _ _ (fun e=>hp (e ▸ hn))).trans (h.block k hk hn)⟩
theorem Later.mono {K J:Nat→Prop} {a b:World} (h:Later K a b) (hJ:∀ k,J k→K k):Later J a b:=⟨h.size,fun k hk hn=>h.block k hk (hJ k hn)⟩
def Shows (K:Nat→Prop) (w:World) (e:Value) (s:ByteArray):Prop :=
 ∀ w',Later K w w'→Calls Tryz.prog 999999999 #[e] w' fun e' w''=>e' = .returned (.string s)∧Below w'.heap.size w' w''
theorem Shows.later {K:Nat→Prop} {w w':World} {e:Value} {s:ByteArray} (h:Shows K w e s) (hl:Later K w w'):Shows K w' e s:=fun w'' h2=>h w'' (hl.trans h2)
theorem below_mono {A B:Nat} {w w':World} (h:A≤B) (k:Below B w w'):Below A w w':=⟨k.os,k.tape,k.output,k.size,fun i hi=>k.block i (by omega)⟩
theorem below_seq {a b c:World} (h:Below a.heap.size a b) (k:Below b.heap.size b c):Below a.heap.size a c:=h.trans (below_mono h.size k)
def shownT (t:ByteArray):ByteArray:=if numB t then stripT t else t
def Op2 (c:Int) (s:List UInt8):Prop:=(c=61∧s = [61,61])∨(c=43∧s = [43])∨(c=42∧s = [42])
structure RepC (K:Nat→Prop) (w:World) (R:Nat→Value→Value→Prop):Prop where
 leaf:∀ (t:ByteArray) (x:Value) (ao:Option Addr) (m c:Nat),leafV t=some x→t.size≤400→R 1 (.agg #[.int .u8 0, .string (shownT t), .slice ao m c]) x
 pair:∀ (oc:Int) (os:List UInt8) (pb n1 n2:Nat) (o1 o2:Int) (t1 t2:ByteArray) (a1 a2:Option Addr) (m1 c1 m2 c2:Nat) (l r:Value),Op2 oc os →
  w.heap[pb]? = some (.cells #[.int .u8 o1, .string t1, .slice a1 m1 c1, .int .u8 o2, .string t2, .slice a2 m2 c2] 999999999)→K pb →
  R n1 (.agg #[.int .u8 o1, .string t1, .slice a1 m1 c1]) l→R n2 (.agg #[.int .u8 o2, .string t2, .slice a2 m2 c2]) r →
  R (n1+n2+1) (.agg #[.int .u8 oc, .string ⟨#[]⟩, .slice (some ⟨pb,0,none⟩) 2 2]) (mkPair ⟨⟨os⟩⟩ l r)
 choice:∀ (pb n1 n2 n3:Nat) (o1 o2 o3:Int) (t1 t2 t3:ByteArray) (a1 a2 a3:Option Addr) (m1 c1 m2 c2 m3 c3:Nat) (x y z:Value),
  w.heap[pb]? = some (.cells #[.int .u8 o1, .string t1, .slice a1 m1 c1, .int .u8 o2, .string t2, .slice a2 m2 c2, .int .u8 o3, .string t3, .slice a3 m3 c3] 999999999)→K pb →
  R n1 (.agg #[.int .u8 o1, .string t1, .slice a1 m1 c1]) x→R n2 (.agg #[.int .u8 o2, .string t2, .slice a2 m2 c2]) y→R n3 (.agg #[.int .u8 o3, .string t3, .slice a3 m3 c3]) z →
  R (n1+n2+n3+4) (.agg #[.int .u8 63, .string ⟨#[]⟩, .slice (some ⟨pb,0,none⟩) 3 3]) (mkChoice x y z)
def Rep (K:Nat→Prop) (w:World) (n:Nat) (e x:Value):Prop:=∀ R:Nat→Value→Value→Prop,RepC K w R→R n e x
theorem rep_later {K:Nat→Prop} {n:Nat} {w w':World} {e x:Value} (h:Rep K w n e x) (hl:Later K w w'):Rep K w' n e x:=by
 intro R hR
 refine h R ⟨hR.leaf,?_,?_⟩
 · intro oc os pb n1 n2 o1 o2 t1 t2 a1 a2 m1 c1 m2 c2 l r ho hh hne h1 h2
   exact hR.pair oc os pb n1 n2 o1 o2 t1 t2 a1 a2 m1 c1 m2 c2 l r ho ((hl.block pb (heap_lt hh) hne).trans hh) hne h1 h2
 · intro pb n1 n2 n3 o1 o2 o3 t1 t2 t3 a1 a2 a3 m1 c1 m2 c2 m3 c3 x y z hh hne h1 h2 h3
   exact hR.choice pb n1 n2 n3 o1 o2 o3 t1 t2 t3 a1 a2 a3 m1 c1 m2 c2 m3 c3 x y z ((hl.block pb (heap_lt hh) hne).trans hh) hne h1 h2 h3
theorem rep_mono {K J:Nat→Prop} {n:Nat} {w:World} {e x:Value} (h:Rep K w n e x) (hJ:∀ k,k < w.heap.size→K k→J k):Rep J w n e x:=by
 intro R hR
 refine h R ⟨hR.leaf,?_,?_⟩
 · intro oc os pb n1 n2 o1 o2 t1 t2 a1 a2 m1 c1 m2 c2 l r ho hh hne h1 h2
   exact hR.pair oc os pb n1 n2 o1 o2 t1 t2 a1 a2 m1 c1 m2 c2 l r ho hh (hJ pb (heap_lt hh) hne) h1 h2
 · intro pb n1 n2 n3 o1 o2 o3 t1 t2 t3 a1 a2 a3 m1 c1 m2 c2 m3 c3 x y z hh hne h1 h2 h3
   exact hR.choice pb n1 n2 n3 o1 o2 o3 t1 t2 t3 a1 a2 a3 m1 c1 m2 c2 m3 c3 x y z hh (hJ pb (heap_lt hh) hne) h1 h2 h3
theorem cell_kept {w w':World} {p:Addr} {v:Value} (hb:Below w.heap.size w w') (h:w.cell? p=some v):w'.cell? p=some v:=by
 have hlt:p.block < w.heap.size:=by
  rcases Nat.lt_or_ge p.block w.heap.size with h1 | h1
  · exact h1
  · simp [World.cell?,Array.getElem?_eq_none h1] at h
 rw [←h];simp [World.cell?,hb.block _ hlt]
theorem below_drew (w:World):Below w.heap.size w w.drew:=⟨rfl,rfl,rfl,Nat.le_refl _,fun _ _=>rfl⟩
theorem below_new (w:World) (o:Obj):Below w.heap.size w (w.alloc o):=(Below.refl _ _).alloc (Nat.le_refl _) _
end Go.Proofs.YthibodlojlkppaaGreatDoor
namespace Go.Proofs.YthibodlojlkppaaGreatDoor
open Go.RowKit
variable [DecidableEq K] [LawfulBEq Lk]
structure FR (O:Nat→Prop) (w w':World):Prop where
 os:w'.os=w.os
 tape:w'.tape=w.tape
 output:w'.output=w.output
 size:w.heap.size≤w'.heap.size
 block:∀ k,k < w.heap.size→¬ O k→w'.heap[k]? = w.heap[k]?
theorem FR.refl (O:Nat→Prop) (w:World):FR O w w:=⟨rfl,rfl,rfl,Nat.le_refl _,fun _ _ _=>rfl⟩
theorem FR.of_below {O:Nat→Prop} {w w':World} (h:Below w.heap.size w w'):FR O w w':=⟨h.os,h.tape,h.output,h.size,fun k hk _=>h.block k hk⟩
theorem FR.heap {O:Nat→Prop} {w w':World} (h:FR O w w') {b:Nat} {o:Obj} (hb:w.heap[b]? = some o) (hn:¬ O b):w'.heap[b]? = some o:=(h.block b (heap_lt hb) hn).trans hb
theorem FR.drew {O:Nat→Prop} {a w:World} (h:FR O a w):FR O a w.drew:=⟨h.os,h.tape,h.output,h.size,h.block⟩
theorem FR.alloc {O:Nat→Prop} {a w:World} (h:FR O a w) (o:Obj):FR O a (w.alloc o) :=
 ⟨h.os,h.tape,h.output,by have:=h.size;simp;omega,fun k hk hn=>by
  rw [Below.heap_alloc _ _ _ (by have:=h.size;omega)];exact h.block k hk hn⟩
theorem FR.setCell {O:Nat→Prop} {a w:World} (h:FR O a w) (p:Addr) (hp:O p.block∨a.heap.size≤p.block) (u:Value):FR O a (w.setCell p u) :=
 ⟨h.os,h.tape,h.output,by have:=h.size;simpa [World.setCell] using this,fun k hk hn=>by
  have hne:k≠p.block:=by
   rintro rfl
   rcases hp with hp | hp
   · exact hn hp
   · omega
  rw [Below.heap_setCell _ _ _ _ hne];exact h.block k hk hn⟩
theorem FR.trans {O O':Nat→Prop} {a b c:World} (h:FR O a b) (k:FR O' b c) (ho:∀ i,O' i→O i∨a.heap.size≤i):FR O a c :=
 ⟨k.os.trans h.os,k.tape.trans h.tape,k.output.trans h.output,Nat.le_trans h.size k.size,fun i hi hn =>
  (k.block i (Nat.lt_of_lt_of_le hi h.size) fun e=>(ho i e).elim hn fun x=>by omega).trans (h.block i hi hn)⟩
theorem FR.mono {O O':Nat→Prop} {w w':World} (h:FR O w w') (ho:∀ i,O i→O' i∨w.heap.size≤i):FR O' w w' :=
 ⟨h.os,h.tape,h.output,h.size,fun k hk hn=>h.block k hk fun e=>(ho k e).elim hn fun x=>by omega⟩
theorem FR.grown {O:Nat→Prop} {a w w':World} (h:FR O a w) {row:Option Nat} (hg:w.grownBy w' row) (hr:∀ g,row=some g→O g∨a.heap.size≤g):FR O a w' :=
 ⟨hg.os.trans h.os,hg.tape.trans h.tape,hg.output.trans h.output,Nat.le_trans h.size hg.size,fun k hk hn =>
  (hg.block k (Nat.lt_of_lt_of_le hk h.size) fun e=>(hr k e.symm).elim hn fun x=>by omega).trans (h.block k hk hn)⟩
structure Lay where
 bk:K→Nat
 sb:ByteArray→Nat
 own:Nat→Prop
def TI (k:K):TypeId:=if k.kind=2 then 178 else if k.kind=3 then 184 else if k.kind=4 then 189 else 165
def TB (k:K):TypeId:=if k.kind=2 then 181 else if k.kind=3 then 187 else if k.kind=4 then 192 else 175
def keyC (k:K):List Value:=[.int .i64 k.kind, .string k.file, .string k.name]
abbrev ptr (b:Nat):Value := .pointer (some ⟨b,0,none⟩)
def slotV (L:Lay) (k:K):Value := .iface (TI k) (ptr (L.bk k))
def lkV (L:Lay):Lk→Value
 | .inl f => .iface 163 (ptr (L.sb f))
 | .inr k=>slotV L k
def Row (O:Nat→Prop) (w:World) (T:TypeId) (v:Value) (n:Nat) (xs:List Value):Prop :=
 ∃ ao c,v = .slice ao n c∧n≤c∧(0 < n→∃ g cur,ao=some ⟨g,0,none⟩∧¬ O g∧w.heap[g]? = some (.cells cur T)∧cur.toList.take xs.length=xs)
theorem Row.next {O O':Nat→Prop} {w w':World} {T:TypeId} {v:Value} {n:Nat} {xs:List Value} (h:Row O w T v n xs) (hf:FR O w w') (ho:∀ i,O' i→O i∨w.heap.size≤i):Row O' w' T v n xs:=by
 obtain ⟨ao,c,hv,hc,hg⟩:=h
 refine ⟨ao,c,hv,hc,fun hn => ?_⟩
 obtain ⟨g,cur,h1,h2,h3,h4⟩:=hg hn
 have:=heap_lt h3
 exact ⟨g,cur,h1,fun e=>(ho g e).elim h2 fun x=>by omega,hf.heap h3 h2,h4⟩
def ValC (O:Nat→Prop) (w:World) (kind:Nat):Option V→List Value→Prop
 | some (.inl l),vs=>(kind=2∧∃ s:ByteArray,s.size≤400∧l=lexAll s)∧∃ v,vs = [v]∧Row O w 121 v l.length (tokCells l)
 | some (.inr (.inl (its,f))),vs=>(kind=3∧∃ s:ByteArray,s.size≤400∧(its,f)=treeX (lexAll s))∧∃ v,vs = [v,faultV f]∧Row O w 137 v its.length ((its.map itOf).flatMap itCells)
 | some (.inr (.inr (.inl l))),vs=>(kind=4∧∃ s:ByteArray,s.size≤400∧l=expX (treeX (lexAll s)).1)∧∃ v,vs = [v]∧Row O w 9 v l.length (l.map .string)
 | some (.inr (.inr (.inr b))),vs=>kind≠2∧kind≠3∧kind≠4∧vs = [.string b]
 | none,vs=>if kind=2 then ∃ a m c,vs = [.slice a m c] else if kind=3 then ∃ a m c f,vs = [.slice a m c, .int .i64 f] else if kind=4 then ∃ a m c,vs = [.slice a m c] else ∃ b,vs = [.string b]
theorem ValC.next {O O':Nat→Prop} {w w':World} {kind:Nat} {x:Option V} {vs:List Value} (h:ValC O w kind x vs) (hf:FR O w w') (ho:∀ i,O' i→O i∨w.heap.size≤i):ValC O' w' kind x vs:=by
 match x,h with
 | some (.inl l),⟨a,v,b,c⟩=>exact ⟨a,v,b,c.next hf ho⟩
 | some (.inr (.inl (its,f))),⟨a,v,b,c⟩=>exact ⟨a,v,b,c.next hf ho⟩
 | some (.inr (.inr (.inl l))),⟨a,v,b,c⟩=>exact ⟨a,v,b,c.next hf ho⟩
 | some (.inr (.inr (.inr b))),h=>exact h
 | none,h=>exact h
def workF (kind:Nat):FuncId:=if kind=1 then 59 else if kind=2 then 63 else if kind=3 then 67 else if kind=4 then 71 else if kind=5 then 74 else if kind=6 then 75 else if kind=7 then 76 else 77
def ruleC (bs kind:Nat):List Value :=
 .func (.func (workF kind)) #[ptr bs] #[] ::
  (if kind=2 then [.func (.func 64) #[] #[], .slice none 0 0]
  else if kind=3 then [.func (.func 68) #[] #[], .slice none 0 0, .int .i64 0]
  else if kind=4 then [.func (.func 72) #[] #[], .slice none 0 0]
  else [.func (.func 89) #[] #[], .string (if kind=7 then cyc_ else nob)])
def verV:Option Nat→Value
 | none => .int .i64 (-1)
 | some v => .int .i64 v
structure Aux where
 la:Option Addr
 ln:Nat
 lc:Nat
 ch:Int
 fk:Bool
def slotC (bs:Nat) (k:K) (m:Memo V) (lp:Bool) (x:Aux) (pl:Int) (vs:List Value):List Value :=
 .pointer (some ⟨bs,1,none⟩) :: .int .i64 k.kind :: .string k.file :: .string k.name :: .bool m.act :: .bool lp :: .slice x.la x.ln x.lc :: verV m.ver :: .int .i64 x.ch :: .bool x.fk :: .int .i64 pl :: .int .u64 m.used :: (ruleC bs k.kind ++ vs)
def SB (w:World) (p:Nat) (T:TypeId) (xs:List Value):Prop:=w.heap[p]? = some (.cells ⟨xs⟩ T)
def plc (arr:List K) (k:K):Int:=if k∈arr then (arr.idxOf k:Int) else -1
structure SlotAt (L:Lay) (lp:Option K) (bs:Nat) (pl:Int) (k:K) (m:Memo V) (w:World):Prop where
 ex:∃ x vs,SB w (L.bk k) (TB k) (slotC bs k m (decide (lp=some k)) x pl vs)∧ValC L.own w k.kind m.val vs
 own:L.own (L.bk k)
def SlM (sl:K→Option (Memo V)) (L:Lay) (sm:Value) (w:World):Prop :=
 (sm = .map none∧∀ k,sl k=none)∨∃ b es n,sm = .map (some b)∧L.own b∧w.heap[b]? = some (.map es n)∧∃ ks:List K,es.toList.map (fun e=>(e.key,e.val))=ks.map (fun k=>(.agg ⟨keyC k⟩,slotV L k))∧ks.Nodup∧∀ k,k∈ks↔sl k≠none
def SrM (src:ByteArray→Option Nat) (L:Lay) (q:Value) (w:World):Prop :=
 (q = .map none∧∀ f,src f=none)∨∃ b es n,q = .map (some b)∧L.own b∧w.heap[b]? = some (.map es n)∧∃ fs:List ByteArray,es.toList.map (fun e=>(e.key,e.val))=fs.map (fun f=>(.string f,ptr (L.sb f)))∧fs.Nodup∧∀ f,f∈fs↔src f≠none
def usedOf (st:St V) (k:K):Nat:=((st.sl k).map (·.used)).getD 0
def OwnRow (O:Nat→Prop) (w:World) (T:TypeId) (size:Nat) (v:Value) (n:Nat) (xs:List Value):Prop:=w.ownsRow 0 T size v n xs∧∀ g,v.ownBlock=some g→O g
structure ENGp (st:St V) (L:Lay) (lp:Option K) (bs:Nat) (fm:Value) (q sm bg kv:Value) (arr:List K) (w:World):Prop where
 s:w.heap[bs]? = some (.cells #[fm, .int .i64 st.rev,q,sm,bg,kv, .int .u64 st.uses] 66)
 bo:L.own bs
 olt:∀ b,L.own b→b < w.heap.size
 sr:SrM st.src L q w
 srb:∀ f c,st.src f=some c→L.own (L.sb f)∧w.heap[L.sb f]? = some (.cells #[.int .i64 c] 162)
 sri:∀ f g,st.src f≠none→st.src g≠none→L.sb f=L.sb g→f=g
 qm:∀ b,q = .map (some b)→sm ≠ .map (some b)
 sm:SlM st.sl L sm w
 bg:OwnRow L.own w 99 3 bg st.began.length (st.began.flatMap keyC)
 kv:OwnRow L.own w 94 1 kv arr.length (arr.map (slotV L))
 perm:arr.Perm st.kept
 nd:arr.Nodup
 kl:st.kept.length≤BIG
 ex:∀ k∈arr,st.sl k≠none
 cell:∀ k m,st.sl k=some m→SlotAt L lp bs (plc arr k) k m w
structure ENGx (st:St V) (L:Lay) (lp:Option K) (bs:Nat) (fm:Value) (q sm bg kv:Value) (arr:List K) (w:World):Prop extends ENGp st L lp bs fm q sm bg kv arr w where
 heap:HN (usedOf st) arr arr.length
def ENG (st:St V) (L:Lay) (lp:Option K) (bs:Nat) (fm:Value) (w:World):Prop:=∃ q sm bg kv arr,ENGx st L lp bs fm q sm bg kv arr w
structure Next (st st':St V) (L L':Lay) (w w':World):Prop where
 bk:∀ k,st.sl k≠none→st'.sl k≠none∧L'.bk k=L.bk k
 sb:∀ f,st.src f≠none→st'.src f≠none∧L'.sb f=L.sb f
 own:∀ b,L'.own b→L.own b∨w.heap.size≤b
 fr:FR L.own w w'
theorem Next.trans {st st1 st2:St V} {L L1 L2:Lay} {w w1 w2:World} (h:Next st st1 L L1 w w1) (g:Next st1 st2 L1 L2 w1 w2):Next st st2 L L2 w w2 :=
 ⟨fun k hk=>⟨(g.bk k (h.bk k hk).1).1,(g.bk k (h.bk k hk).1).2.trans (h.bk k hk).2⟩,fun f hf=>⟨(g.sb f (h.sb f hf).1).1,(g.sb f (h.sb f hf).1).2.trans (h.sb f hf).2⟩,fun b hb=>by
  rcases g.own b hb with h1 | h1
  · exact h.own b h1
  · exact .inr (Nat.le_trans h.fr.size h1),h.fr.trans g.fr fun i hi=>h.own i hi⟩
theorem Next.row {st st':St V} {L L':Lay} {w w':World} (h:Next st st' L L' w w') {T:TypeId} {v:Value} {n:Nat} {xs:List Value} (r:Row L.own w T v n xs):Row L'.own w' T v n xs:=r.next h.fr h.own
theorem Next.blk {st st':St V} {L L':Lay} {w w':World} (h:Next st st' L L' w w') {b:Nat} {o:Obj} (hb:w.heap[b]? = some o) (hn:¬ L.own b):w'.heap[b]? = some o∧¬ L'.own b:=by
 have:=heap_lt hb
 exact ⟨h.fr.heap hb hn,fun e=>(h.own b e).elim hn fun x=>by omega⟩
structure FM (W0:World) (F:ByteArray→Option ByteArray) (L:Lay) (fm:Value) (w:World):Prop where
 sm:∀ f x,F f=some x→x.size≤400
 mp:(fm = .map none∧∀ f,F f=none)∨∃ b es n,fm = .map (some b)∧¬ L.own b∧w.heap[b]? = some (.map es n)∧∃ fs:List (ByteArray × ByteArray),es.toList.map (fun e=>(e.key,e.val))=fs.map (fun p=>(.string p.1, .agg #[.string p.2]))∧(fs.map (·.1)).Nodup∧∀ f x,(f,x)∈fs↔F f=some x
 low:Below W0.heap.size W0 w
 ow:∀ b,L.own b→W0.heap.size≤b
theorem FM.next {W0:World} {F:ByteArray→Option ByteArray} {st st':St V} {L L':Lay} {fm:Value} {w w':World} (h:FM W0 F L fm w) (hN:Next st st' L L' w w'):FM W0 F L' fm w':=by
 refine ⟨h.sm,h.mp.imp id ?_,⟨hN.fr.os.trans h.low.os,hN.fr.tape.trans h.low.tape,hN.fr.output.trans h.low.output,Nat.le_trans h.low.size hN.fr.size,fun k hk => ?_⟩,fun b hb => ?_⟩
 · rintro ⟨b,es,n,h1,h2,h3,h4⟩
   exact ⟨b,es,n,h1,(hN.blk h3 h2).2,(hN.blk h3 h2).1,h4⟩
 · exact (hN.fr.block k (Nat.lt_of_lt_of_le hk h.low.size) fun e=>by have:=h.ow k e;omega).trans (h.low.block k hk)
 · rcases hN.own b hb with h1 | h1
   · exact h.ow b h1
   · exact Nat.le_trans h.low.size h1
theorem FM.below {W0:World} {F:ByteArray→Option ByteArray} {L:Lay} {fm:Value} {w w':World} (h:FM W0 F L fm w) (hb:Below w.heap.size w w'):FM W0 F L fm w':=by
 refine ⟨h.sm,h.mp.imp id ?_,below_seq h.low hb,h.ow⟩
 rintro ⟨b,es,n,h1,h2,h3,h4⟩
 exact ⟨b,es,n,h1,h2,(hb.block b (heap_lt h3)).trans h3,h4⟩
theorem Next.lkV {st st':St V} {L L':Lay} {w w':World} (h:Next st st' L L' w w') {l:Lk} (hl:match l with | .inl f=>st.src f≠none | .inr j=>st.sl j≠none):lkV L' l=lkV L l:=by
 cases l with
 | inl f=>simp only [Go.Proofs.YthibodlojlkppaaGreatDoor.lkV,(h.sb f hl).2]
 | inr k=>simp only [Go.Proofs.YthibodlojlkppaaGreatDoor.lkV,slotV,(h.bk k hl).2]
theorem Row.keep {O:Nat→Prop} {w w':World} {T:TypeId} {v:Value} {n:Nat} {xs:List Value} (h:Row O w T v n xs) (hk:∀ (b:Nat) (o:Obj),¬ O b→w.heap[b]? = some o→w'.heap[b]? = some o):Row O w' T v n xs:=by
 obtain ⟨ao,c,hv,hc,hg⟩:=h
 refine ⟨ao,c,hv,hc,fun hn => ?_⟩
 obtain ⟨g,cur,h1,h2,h3,h4⟩:=hg hn
 exact ⟨g,cur,h1,h2,hk g _ h2 h3,h4⟩
theorem ValC.keep {O:Nat→Prop} {w w':World} {kind:Nat} {x:Option V} {vs:List Value} (h:ValC O w kind x vs) (hk:∀ (b:Nat) (o:Obj),¬ O b→w.heap[b]? = some o→w'.heap[b]? = some o):ValC O w' kind x vs:=by
 match x,h with
 | some (.inl l),⟨a,v,b,c⟩=>exact ⟨a,v,b,c.keep hk⟩
 | some (.inr (.inl (its,f))),⟨a,v,b,c⟩=>exact ⟨a,v,b,c.keep hk⟩
 | some (.inr (.inr (.inl l))),⟨a,v,b,c⟩=>exact ⟨a,v,b,c.keep hk⟩
 | some (.inr (.inr (.inr b))),h=>exact h
 | none,h=>exact h
theorem TB_ne {k:K}:TB k≠66∧TB k≠162∧TB k≠99∧TB k≠94:=by
 unfold TB
 repeat' split
 all_goals decide
theorem OwnRow.keep {O:Nat→Prop} {w w':World} {T:TypeId} {size n:Nat} {v:Value} {xs:List Value} (h:OwnRow O w T size v n xs) (hk:∀ (b:Nat) (cs:Array Value),w.heap[b]? = some (.cells cs T)→w'.heap[b]? = some (.cells cs T)):OwnRow O w' T size v n xs:=by
 obtain ⟨⟨hl,h1 | ⟨g,cap,cur,h1,h2,h3,h4⟩⟩,ho⟩:=h
 · exact ⟨⟨hl, .inl h1⟩,ho⟩
 · exact ⟨⟨hl, .inr ⟨g,cap,cur,h1,h2,hk _ _ h3,h4⟩⟩,ho⟩
theorem SlM.keep {sl:K→Option (Memo V)} {L:Lay} {sm:Value} {w w':World} (h:SlM sl L sm w) (hk:∀ (b:Nat) (es:Array MapEntry) (n:Nat),w.heap[b]? = some (.map es n)→w'.heap[b]? = some (.map es n)):SlM sl L sm w':=by
 rcases h with h | ⟨b,es,n,h1,h2,h3,h4⟩
 · exact .inl h
 · exact .inr ⟨b,es,n,h1,h2,hk _ _ _ h3,h4⟩
theorem SlM.sl {sl sl':K→Option (Memo V)} {L:Lay} {sm:Value} {w:World} (h:SlM sl L sm w) (hs:∀ k,sl' k=none↔sl k=none):SlM sl' L sm w:=by
 rcases h with ⟨h1,h2⟩ | ⟨b,es,n,h1,h2,h3,ks,h4,h5,h6⟩
 · exact .inl ⟨h1,fun k=>(hs k).2 (h2 k)⟩
 · exact .inr ⟨b,es,n,h1,h2,h3,ks,h4,h5,fun k=>(h6 k).trans (not_congr (hs k).symm)⟩
theorem SrM.keep {src:ByteArray→Option Nat} {L:Lay} {q:Value} {w w':World} (h:SrM src L q w) (hk:∀ (b:Nat) (es:Array MapEntry) (n:Nat),w.heap[b]? = some (.map es n)→w'.heap[b]? = some (.map es n)):SrM src L q w':=by
 rcases h with h | ⟨b,es,n,h1,h2,h3,h4⟩
 · exact .inl h
 · exact .inr ⟨b,es,n,h1,h2,hk _ _ _ h3,h4⟩
theorem ENGp.bk_inj {st:St V} {L:Lay} {lp:Option K} {bs:Nat} {fm q sm bg kv:Value} {arr:List K} {w:World} (h:ENGp st L lp bs fm q sm bg kv arr w) {j k:K} (hj:st.sl j≠none) (hk:st.sl k≠none) (e:L.bk j=L.bk k):j=k:=by
 obtain ⟨mj,hj⟩:=Option.ne_none_iff_exists'.1 hj
 obtain ⟨mk,hk⟩:=Option.ne_none_iff_exists'.1 hk
 obtain ⟨x1,vs1,s1,_⟩:=(h.cell j mj hj).ex
 obtain ⟨lk2,vs2,s2,_⟩:=(h.cell k mk hk).ex
 rw [SB,e] at s1
 have:=s1.symm.trans s2
 injection this with this
 injection this with this _ _
 simp only [slotC,Array.mk.injEq,List.cons.injEq,Value.int.injEq,Value.string.injEq,true_and] at this
 obtain ⟨a,b,c,_⟩:=this
 cases j;cases k
 simp only at a b c
 simp only [K.mk.injEq]
 exact ⟨by omega,b,c⟩
theorem used_put {st:St V} {k:K} {m m':Memo V} (hk:st.sl k=some m) (hu:m'.used=m.used):usedOf (st.put k m')=usedOf st:=by
 funext j
 unfold usedOf
 by_cases hj:j=k
 · subst hj;simp [St.put,hk,hu]
 · simp [St.put,hj]
theorem ENGp.slot {st:St V} {L:Lay} {lp lp':Option K} {bs:Nat} {fm q sm bg kv:Value} {arr:List K} {w w':World} (h:ENGp st L lp bs fm q sm bg kv arr w) {k:K} {m m':Memo V} (hk:st.sl k=some m)
 (hb:∀ b:Nat,b≠L.bk k→w'.heap[b]? = w.heap[b]?) (hs:w.heap.size≤w'.heap.size)
 (hsb:∃ x vs,SB w' (L.bk k) (TB k) (slotC bs k m' (decide (lp'=some k)) x (plc arr k) vs)∧ValC L.own w k.kind m'.val vs) (hlp:∀ j,j≠k→(decide (lp'=some j)=decide (lp=some j))):ENGp (st.put k m') L lp' bs fm q sm bg kv arr w':=by
 have ho:=(h.cell k m hk).own
 obtain ⟨lk0,vs0,hsb0,_⟩:=(h.cell k m hk).ex
 have hT:=TB_ne (k:=k)
 have hne:∀ (b:Nat) (cs:Array Value) (T:TypeId),w.heap[b]? = some (.cells cs T)→T≠TB k→w'.heap[b]? = some (.cells cs T):=fun b cs T hbo hn=>by
  rw [hb b fun e => ?_]
  · exact hbo
  · rw [e,hsb0] at hbo;injection hbo with hbo;injection hbo with _ h2;exact hn h2.symm
 have hmap:∀ (b:Nat) (es:Array MapEntry) (n:Nat),w.heap[b]? = some (.map es n)→w'.heap[b]? = some (.map es n):=fun b es n hbo=>by
  rw [hb b fun e => ?_]
  · exact hbo
  · rw [e,hsb0] at hbo;injection hbo with hbo;cases hbo
 have hout:∀ (b:Nat) (o:Obj),¬ L.own b→w.heap[b]? = some o→w'.heap[b]? = some o:=fun b o hn hbo=>by
  rw [hb b fun e=>hn (e ▸ ho)];exact hbo
 have hex:∀ j,st.sl j≠none→(st.put k m').sl j≠none:=fun j hj=>by
  simp only [St.put];split
  · simp
  · exact hj
 refine ⟨hne _ _ _ h.s hT.1.symm,h.bo,fun b hbo=>Nat.lt_of_lt_of_le (h.olt b hbo) hs,h.sr.keep hmap,fun f c hf=>⟨(h.srb f c hf).1,hne _ _ _ (h.srb f c hf).2 hT.2.1.symm⟩,h.sri,h.qm,(h.sm.keep hmap).sl fun j => ?_,h.bg.keep fun b cs hbo=>hne _ _ _ hbo hT.2.2.1.symm,h.kv.keep fun b cs hbo=>hne _ _ _ hbo hT.2.2.2.symm,h.perm,h.nd,h.kl,fun j hj=>hex j (h.ex j hj),fun j n hj => ?_⟩
 · by_cases hjk:j=k
   · subst hjk;simp [St.put,hk]
   · simp [St.put,hjk]
 · by_cases hjk:j=k
   · subst hjk
     simp [St.put] at hj
     subst hj
     obtain ⟨x,vs,a,c⟩:=hsb
     exact ⟨⟨x,vs,a,c.keep hout⟩,ho⟩
   · have hj':st.sl j=some n:=by simpa [St.put,hjk] using hj
     have hc:=h.cell j n hj'
     obtain ⟨x,vs,a,c⟩:=hc.ex
     have hbne:L.bk j≠L.bk k:=fun e=>hjk (h.bk_inj (by rw [hj'];simp) (by rw [hk];simp) e)
     refine ⟨⟨x,vs,?_,c.keep hout⟩,hc.own⟩
     rw [hlp j hjk]
     exact (hb _ hbne).trans a
theorem ENGx.set {st:St V} {L:Lay} {lp lp':Option K} {bs:Nat} {fm q sm bg kv:Value} {arr:List K} {w:World} (h:ENGx st L lp bs fm q sm bg kv arr w) {k:K} {m m':Memo V} (hk:st.sl k=some m) (i:Nat) (v:Value)
 (hc:∀ x pl vs,(slotC bs k m (decide (lp=some k)) x pl vs).set i v=slotC bs k m' (decide (lp'=some k)) x pl vs) (hv:m'.val=m.val) (hu:m'.used=m.used) (hlp:∀ j,j≠k→(decide (lp'=some j)=decide (lp=some j))):ENGx (st.put k m') L lp' bs fm q sm bg kv arr (w.setCell ⟨L.bk k,i,none⟩ v):=by
 have hc0:=h.cell k m hk
 obtain ⟨x,vs,a,c⟩:=hc0.ex
 refine ⟨h.slot hk (fun b hb=>heap_setCell_ne hb v) (by simp) ⟨x,vs,?_,by rw [hv];exact c⟩ hlp,by rw [used_put hk hu];exact h.heap⟩
 rw [←hc]
 have:=heap_setCell_lit (i:=i) a v
 simpa [SB] using this
theorem ENGp.below {st:St V} {L:Lay} {lp:Option K} {bs:Nat} {fm q sm bg kv:Value} {arr:List K} {w w':World} (h:ENGp st L lp bs fm q sm bg kv arr w) (hb:Below w.heap.size w w'):ENGp st L lp bs fm q sm bg kv arr w':=by
 have hk:∀ (b:Nat) (o:Obj),w.heap[b]? = some o→w'.heap[b]? = some o:=fun b o hbo=>below_heap hb (heap_lt hbo) hbo
 refine ⟨hk _ _ h.s,h.bo,fun b hbo=>Nat.lt_of_lt_of_le (h.olt b hbo) hb.size,h.sr.keep fun b es n=>hk b _,fun f c hf=>⟨(h.srb f c hf).1,hk _ _ (h.srb f c hf).2⟩,h.sri,h.qm,h.sm.keep fun b es n=>hk b _,h.bg.keep fun b cs=>hk b _,h.kv.keep fun b cs=>hk b _,h.perm,h.nd,h.kl,h.ex,fun j n hj => ?_⟩
 have hc:=h.cell j n hj
 obtain ⟨x,vs,a,c⟩:=hc.ex
 exact ⟨⟨x,vs,hk _ _ a,c.keep fun b o _=>hk b o⟩,hc.own⟩
theorem ENGx.below {st:St V} {L:Lay} {lp:Option K} {bs:Nat} {fm q sm bg kv:Value} {arr:List K} {w w':World} (h:ENGx st L lp bs fm q sm bg kv arr w) (hb:Below w.heap.size w w'):ENGx st L lp bs fm q sm bg kv arr w':=⟨h.toENGp.below hb,h.heap⟩
theorem Next.refl (st:St V) (L:Lay) (w:World):Next st st L L w w:=⟨fun _ h=>⟨h,rfl⟩,fun _ h=>⟨h,rfl⟩,fun _ h => .inl h,FR.refl _ _⟩
theorem Next.below {st st':St V} {L L':Lay} {w w1 w2:World} (h:Next st st' L L' w w1) (hb:Below w1.heap.size w1 w2):Next st st' L L' w w2:=⟨h.bk,h.sb,h.own,h.fr.trans (O':=fun _=>False) (FR.of_below hb) fun _ x=>x.elim⟩
theorem put_ne {st:St V} {k:K} {m:Memo V} {j:K} (h:st.sl j≠none):(st.put k m).sl j≠none:=by
 simp only [St.put];split
 · simp
 · exact h
theorem Next.put {st:St V} {L:Lay} {w w':World} {k:K} {m:Memo V} (hf:FR L.own w w'):Next st (st.put k m) L L w w':=⟨fun _ h=>⟨put_ne h,rfl⟩,fun _ h=>⟨h,rfl⟩,fun _ h => .inl h,hf⟩
end Go.Proofs.YthibodlojlkppaaGreatDoor
namespace Go.Proofs.YthibodlojlkppaaGreatDoor.Ses
open Go.RowKit
structure Fr (S:List Nat) (w w':World):Prop where
 os:w'.os=w.os
 tape:w'.tape=w.tape
 output:w'.output=w.output
 size:w.heap.size≤w'.heap.size
 block:∀ k,k < w.heap.size→k ∉ S→w'.heap[k]? = w.heap[k]?
theorem Fr.refl (S:List Nat) (w:World):Fr S w w:=⟨rfl,rfl,rfl,Nat.le_refl _,fun _ _ _=>rfl⟩
theorem Fr.drew {S:List Nat} {a w:World} (h:Fr S a w):Fr S a w.drew:=⟨h.os,h.tape,h.output,h.size,h.block⟩
theorem Fr.alloc {S:List Nat} {a w:World} (h:Fr S a w) (o:Obj):Fr S a (w.alloc o) :=
 ⟨h.os,h.tape,h.output,by have:=h.size;simp;omega,fun k hk hn=>by
  rw [Below.heap_alloc _ _ _ (by have:=h.size;omega)];exact h.block k hk hn⟩
theorem Fr.setCell {S:List Nat} {a w:World} (h:Fr S a w) (p:Addr) (hp:p.block∈S∨a.heap.size≤p.block) (u:Value):Fr S a (w.setCell p u) :=
 ⟨h.os,h.tape,h.output,by have:=h.size;simpa [World.setCell] using this,fun k hk hn=>by
  have hne:k≠p.block:=by
   rintro rfl
   rcases hp with hp | hp
   · exact hn hp
   · omega
  rw [Below.heap_setCell _ _ _ _ hne];exact h.block k hk hn⟩
theorem Fr.trans {S:List Nat} {a b c:World} (h:Fr S a b) (k:Fr S b c):Fr S a c :=
 ⟨k.os.trans h.os,k.tape.trans h.tape,k.output.trans h.output,Nat.le_trans h.size k.size,fun i hi hn =>
  (k.block i (Nat.lt_of_lt_of_le hi h.size) hn).trans (h.block i hi hn)⟩
theorem Fr.mono {S T:List Nat} {w w':World} (h:Fr S w w') (hs:∀ k,k∈S→k∈T∨w.heap.size≤k):Fr T w w' :=
 ⟨h.os,h.tape,h.output,h.size,fun k hk hn=>h.block k hk fun e=>by
  rcases hs k e with h1 | h1
  · exact hn h1
  · omega⟩
theorem Fr.of_below {S:List Nat} {w w':World} (h:Below w.heap.size w w'):Fr S w w' :=
 ⟨h.os,h.tape,h.output,h.size,fun k hk _=>h.block k hk⟩
theorem Fr.cell {S:List Nat} {w w':World} (h:Fr S w w') {p:Addr} (hp:p.block < w.heap.size) (hn:p.block ∉ S):w'.cell? p=w.cell? p :=
 World.cell?_of_block (w:=w) (h.block p.block hp hn)
theorem heap_cell {w:World} {b i:Nat} {cs:Array Value} {T:TypeId} {fr:Nat × Nat} (h:w.heap[b]? = some (.cells cs T fr)):w.cell? ⟨b,i,none⟩=cs[i]?:=by
 simp [World.cell?,h]
theorem heap_frozen {w:World} {b i:Nat} {cs:Array Value} {T:TypeId} (h:w.heap[b]? = some (.cells cs T)):w.frozen? ⟨b,i,none⟩=false:=by
 simp [World.frozen?,h]
theorem setCell_same {w:World} {b i:Nat} {v:Value} (h:w.cell? ⟨b,i,none⟩=some v):w.setCell ⟨b,i,none⟩ v=w:=by
 unfold World.cell? at h
 have:(w.setCell ⟨b,i,none⟩ v).heap=w.heap:=by
  apply Array.ext_getElem?
  intro k
  simp only [World.setCell,Array.getElem?_modify]
  split
  · next e =>
    subst e
    revert h
    cases hb:w.heap[b]? with
    | none=>simp
    | some o =>
     cases o with
     | cells c T fr =>
      intro h
      simp at h
      simp
      apply Array.ext_getElem?
      intro j
      rw [Array.getElem?_setIfInBounds]
      split
      · next e=>subst e;rw [h];split <;> simp_all
      · rfl
     | _=>simp
  · rfl
 show ({ w with heap:=(w.setCell ⟨b,i,none⟩ v).heap }:World)=w
 rw [this]
theorem heap_setCell_lit {w:World} {b i:Nat} {cs:Array Value} {T:TypeId} {fr:Nat × Nat} (h:w.heap[b]? = some (.cells cs T fr)) (v:Value) :
 (w.setCell ⟨b,i,none⟩ v).heap[b]? = some (.cells (cs.setIfInBounds i v) T fr):=by
 simp [World.setCell,Array.getElem?_modify,h]
theorem heap_setCell_ne {w:World} {b k i:Nat} (h:k≠b) (v:Value):(w.setCell ⟨b,i,none⟩ v).heap[k]? = w.heap[k]?:=Below.heap_setCell _ _ _ _ h
theorem heap_lt {w:World} {b:Nat} {o:Obj} (h:w.heap[b]? = some o):b < w.heap.size:=(Array.getElem?_eq_some_iff.1 h).1
theorem below_heap {w w':World} (hb:Below w.heap.size w w') {b:Nat} {o:Obj} (h:w.heap[b]? = some o):w'.heap[b]? = some o:=by
 rw [hb.block b (heap_lt h)];exact h
theorem isKA:MapKept.IsKey .string (.string ⟨#[97]⟩):=by simp [MapKept.IsKey]
def qEs (bc:Nat):Array MapEntry:=#[{ key := .string ⟨#[97]⟩,val := .pointer (some ⟨bc,0,none⟩),born:=0 }]
def qBlk (bc:Nat):Obj := .map (qEs bc) 1
theorem findQ (bc:Nat):Instr.findNow .string (.string ⟨#[97]⟩) (qEs bc).toList 0=some (some (0, .pointer (some ⟨bc,0,none⟩))):=rfl
theorem lookq_nil (w:World):(Instr.lookup 57 (.map none) (.string ⟨#[97]⟩) true).run Tryz.prog w = .ok (.tuple #[.pointer none, .bool false]) w:=by
 kernel_rfl
theorem lookq_one (w:World) (b bc:Nat) (h:w.heap[b]? = some (qBlk bc)) :
 (Instr.lookup 57 (.map (some b)) (.string ⟨#[97]⟩) true).run Tryz.prog w = .ok (.tuple #[.pointer (some ⟨bc,0,none⟩), .bool true]) w:=by
 simp [Instr.lookup,run_underlying Tryz.underlying57,MapKept.run_getObj_map h,MapKept.run_checkKey Tryz.underlying9 isKA,MapKept.run_findKey Tryz.underlying9 (findQ bc),Result.andThen]
theorem storeq_new (w:World) (b bc:Nat) (h:w.heap[b]? = some (.map #[] 0)) :
 (Instr.mapUpdate 57 (.map (some b)) (.string ⟨#[97]⟩) (.pointer (some ⟨bc,0,none⟩))).run Tryz.prog w = .ok () { w with heap:=w.heap.setIfInBounds b (qBlk bc) }:=by
 have hf:Instr.findNow .string (.string ⟨#[97]⟩) ([]:List MapEntry) 0=some none:=rfl
 simp [Instr.mapUpdate,run_underlying Tryz.underlying57,MapKept.run_getObj_map h,MapKept.run_checkKey Tryz.underlying9 isKA,MapKept.run_findKey Tryz.underlying9 hf,MapKept.run_setObj_map _ h,Result.andThen,qBlk,qEs]
theorem clone_any (s:ByteArray) (w:World) (hl:s.size≤400) :
 Calls Tryz.prog 23 #[.string s] w fun e w'=>e = .returned (.string s)∧Below w.heap.size w w':=by
 go_enter Tryz.func23,Tryz.ntmps23
 go_wp2_with (go_at_call 49;refine (Tryz.stringslite_Clone _ _ (by omega)).mono ?_;rintro e w' ⟨rfl,hb⟩)
 go_ret
 exact ⟨rfl,hb⟩
def sBlk (M Q:Option Nat) (r:Int):Obj := .cells #[.map M, .int .i64 r, .map Q, .map none, .slice none 0 0, .slice none 0 0, .int .u64 0] 66
def cBlk (c:Int):Obj := .cells #[.int .i64 c] 162
def setO (w:World) (b:Nat) (o:Obj):World:={ w with heap:=w.heap.setIfInBounds b o }
theorem setO_ne (w:World) (b k:Nat) (o:Obj) (h:k≠b):(setO w b o).heap[k]? = w.heap[k]?:=by
 simp [setO,Ne.symm h]
theorem setO_eq {w:World} {b:Nat} {o':Obj} (o:Obj) (h:w.heap[b]? = some o'):(setO w b o).heap[b]? = some o:=by
 have:=heap_lt h
 simp [setO,this]
structure PC (hp:Array Obj) (bs bm bq bc:Nat) (r:Int) (o:Obj):Prop where
 hs:hp[bs]? = some (sBlk (some bm) (some bq) r)
 hm:hp[bm]? = some o
 hq:hp[bq]? = some (qBlk bc)
 hc:∃ c,hp[bc]? = some (cBlk c)
theorem PC.below {w w':World} {bs bm bq bc:Nat} {r:Int} {o:Obj} (hb:Below w.heap.size w w') (h:PC w.heap bs bm bq bc r o):PC w'.heap bs bm bq bc r o:=⟨below_heap hb h.hs,below_heap hb h.hm,below_heap hb h.hq,h.hc.imp fun _ e=>below_heap hb e⟩
theorem PC.c0 {w:World} {bs bm bq bc:Nat} {r:Int} {o:Obj} (h:PC w.heap bs bm bq bc r o):w.cell? ⟨bs,0,none⟩=some (.map (some bm)):=heap_cell h.hs
theorem PC.c1 {w:World} {bs bm bq bc:Nat} {r:Int} {o:Obj} (h:PC w.heap bs bm bq bc r o):w.cell? ⟨bs,1,none⟩=some (.int .i64 r):=heap_cell h.hs
theorem Fr.step {S:List Nat} {a w w':World} (h:Hid (Fr S a w)) (hb:Below w.heap.size w w'):Hid (Fr S a w'):=h.out.trans (Fr.of_below hb)
theorem Fr.setO {S:List Nat} {a w:World} (h:Fr S a w) (b:Nat) (hb:b∈S∨a.heap.size≤b) (o:Obj):Fr S a (setO w b o) :=
 ⟨h.os,h.tape,h.output,by have:=h.size;simpa [Ses.setO] using this,fun k hk hn=>by
  have hne:k≠b:=by
   rintro rfl
   rcases hb with hb | hb
   · exact hn hb
   · omega
  rw [setO_ne _ _ _ _ hne];exact h.block k hk hn⟩
theorem source_old (bs bq bc:Nat) (w:World) (c2:w.cell? ⟨bs,2,none⟩=some (.map (some bq))) (hq:w.heap[bq]? = some (qBlk bc)) :
 Calls Tryz.prog 84 #[.pointer (some ⟨bs,1,none⟩), .string ⟨#[97]⟩] w fun e w'=>e = .returned (.pointer (some ⟨bc,0,none⟩))∧w'=w:=by
 have hl:=lookq_one w bq bc hq
 clear hq
 go_enter Tryz.func84,Tryz.ntmps84
 go_wp2
 go_ret
 exact ⟨rfl,rfl⟩
structure Chn (w w':World) (bs bq bc:Nat) (M:Option Nat) (r c:Int):Prop where
 s:w'.heap[bs]? = some (sBlk M (some bq) r)
 q:w'.heap[bq]? = some (qBlk bc)
 c:w'.heap[bc]? = some (cBlk c)
 lq:w.heap.size≤bq
 lc:w.heap.size≤bc
 ne:bq≠bc
 f:Fr [bs] w w'
structure Pre (w W:World) (bs:Nat) (M:Option Nat) (r:Int):Prop where
 s:W.heap[bs]? = some (sBlk M (some (w.heap.size+1)) r)
 q:W.heap[w.heap.size+1]? = some (.map #[] 0)
 c:W.heap[w.heap.size]? = some (cBlk 0)
 f:Fr [bs] w W
 lt:bs < w.heap.size
theorem Pre.below {w W W':World} {bs:Nat} {M:Option Nat} {r:Int} (h:Pre w W bs M r) (hb:Below W.heap.size W W'):Pre w W' bs M r :=
 ⟨below_heap hb h.s,below_heap hb h.q,below_heap hb h.c,h.f.trans (Fr.of_below hb),h.lt⟩
theorem Pre.drew {w W:World} {bs:Nat} {M:Option Nat} {r:Int} (h:Pre w W bs M r):Pre w W.drew bs M r:=⟨h.s,h.q,h.c,h.f.drew,h.lt⟩
theorem pre_of {w:World} {bs:Nat} {M:Option Nat} {r:Int} (h:w.heap[bs]? = some (sBlk M none r)) :
 Pre w (((w.setCell ⟨bs,2,none⟩ (.map (some (w.heap.size+1)))).alloc (cBlk 0)).alloc (.map #[] 0)) bs M r:=by
 have hb:=heap_lt h
 have s0:=heap_setCell_lit (i:=2) h (.map (some (w.heap.size+1)))
 have hz0:(w.setCell ⟨bs,2,none⟩ (.map (some (w.heap.size+1)))).heap.size=w.heap.size:=by simp
 have hA:=MapKept.heap_alloc (w.setCell ⟨bs,2,none⟩ (.map (some (w.heap.size+1)))) (cBlk 0)
 have hA2:=MapKept.heap_alloc ((w.setCell ⟨bs,2,none⟩ (.map (some (w.heap.size+1)))).alloc (cBlk 0)) (.map #[] 0)
 have hz:((w.setCell ⟨bs,2,none⟩ (.map (some (w.heap.size+1)))).alloc (cBlk 0)).heap.size=w.heap.size+1:=by simp
 rw [hz] at hA2
 rw [hz0] at hA
 exact ⟨(hA2.2 bs (by omega)).trans ((hA.2 bs hb).trans s0),hA2.1,(hA2.2 _ (by omega)).trans hA.1,((((Fr.refl _ _).setCell _ (.inl (by simp)) _).alloc _).alloc _),hb⟩
theorem Pre.store {w W:World} {bs:Nat} {M:Option Nat} {r:Int} (h:Pre w W bs M r):Chn w (setO W (w.heap.size+1) (qBlk w.heap.size)) bs (w.heap.size+1) w.heap.size M r 0:=by
 have:=h.lt
 exact ⟨(setO_ne _ _ _ _ (by omega)).trans h.s,setO_eq _ h.q,(setO_ne _ _ _ _ (by omega)).trans h.c,by omega,by omega,by omega,h.f.setO _ (.inr (by omega)) _⟩
theorem Chn.below {w w1 w2:World} {bs bq bc:Nat} {M:Option Nat} {r c:Int} (h:Chn w w1 bs bq bc M r c) (hb:Below w1.heap.size w1 w2):Chn w w2 bs bq bc M r c :=
 ⟨below_heap hb h.s,below_heap hb h.q,below_heap hb h.c,h.lq,h.lc,h.ne,h.f.trans (Fr.of_below hb)⟩
theorem source_new (bs:Nat) (M:Option Nat) (r:Int) (w:World) (h:w.heap[bs]? = some (sBlk M none r)) :
 Calls Tryz.prog 84 #[.pointer (some ⟨bs,1,none⟩), .string ⟨#[97]⟩] w fun e w'=>e = .returned (.pointer (some ⟨w.heap.size,0,none⟩))∧Chn w w' bs (w.heap.size+1) w.heap.size M r 0:=by
 have c2:w.cell? ⟨bs,2,none⟩=some (.map none):=heap_cell h
 have hb:=heap_lt h
 have hA:=MapKept.heap_alloc w (cBlk 0)
 have hA2:=MapKept.heap_alloc (w.alloc (cBlk 0)) (.map #[] 0)
 have d2:∀ o,(w.alloc o).cell? ⟨bs,2,none⟩=some (.map none):=fun o=>heap_cell ((Below.heap_alloc w o bs hb).trans h)
 have e2:∀ o p,((w.alloc o).alloc p).cell? ⟨bs,2,none⟩=some (.map none):=fun o p=>heap_cell ((Below.heap_alloc (w.alloc o) p bs (by simp;omega)).trans ((Below.heap_alloc w o bs hb).trans h))
 have g2:∀ o p,((w.alloc o).alloc p).frozen? ⟨bs,2,none⟩=false:=fun o p=>heap_frozen ((Below.heap_alloc (w.alloc o) p bs (by simp;omega)).trans ((Below.heap_alloc w o bs hb).trans h))
 have hmn:∀ W:World,(binOp .eql 57 (.map none) (.map none)).run Tryz.prog W = .ok (.bool true) W:=fun W=>run_eql_map_nil W 57 9 163 none Tryz.underlying57
 have hmk:∀ W:World,(Instr.makeMap 57 none).run Tryz.prog W = .ok (.map (some W.heap.size)) (W.alloc (.map #[] 0)):=fun W=>@run_makeMap Tryz.prog 57 W
 have hl:=lookq_nil w
 have HP:Hid (Pre w (((w.setCell ⟨bs,2,none⟩ (.map (some (w.heap.size+1)))).alloc (cBlk 0)).alloc (.map #[] 0)) bs M r):=pre_of h
 clear h hA hA2
 go_enter Tryz.func84,Tryz.ntmps84
 go_wp2
 have HP2:Hid (Pre w (((w.setCell ⟨bs,2,none⟩ (.map (some (w.heap.size+1)))).alloc (.cells #[.int .i64 0] 162)).alloc (.map #[] 0)) bs M r):=HP
 generalize ((w.setCell ⟨bs,2,none⟩ (.map (some (w.heap.size+1)))).alloc (.cells #[.int .i64 0] 162)).alloc (.map #[] 0)=W at HP2 ⊢
 have d2:W.cell? ⟨bs,2,none⟩=some (.map (some (w.heap.size+1))):=heap_cell HP2.out.s
 have hst:∀ W:World,W.heap[w.heap.size+1]? = some (.map #[] 0)→(Instr.mapUpdate 57 (.map (some (w.heap.size+1))) (.string ⟨#[97]⟩) (.pointer (some ⟨w.heap.size,0,none⟩))).run Tryz.prog W = .ok () (setO W (w.heap.size+1) (qBlk w.heap.size)):=fun W hW=>storeq_new W (w.heap.size+1) w.heap.size hW
 clear HP c2 e2 g2 hmn hmk hl hb
 go_region_with (go_at_call 23;go_must (refine (clone_any _ _ ?hh).mono ?_;(case hh=>decide);rintro e w' ⟨rfl,hb⟩;have HP3:Hid (Pre w w' bs M r):=(by first | exact HP2.out.below hb | exact HP2.out.drew.below hb);have d2':w'.cell? ⟨bs,2,none⟩=some (.map (some (w.heap.size+1))):=heap_cell HP3.out.s;have q2':=HP3.out.q))
 all_goals go_wp2
 all_goals go_ret
 all_goals exact ⟨rfl,HP3.out.store⟩
theorem Chn.cell {w w1:World} {bs bq bc:Nat} {M:Option Nat} {r c:Int} (h:Chn w w1 bs bq bc M r c) (hb:bs < w.heap.size):Chn w (w1.setCell ⟨bc,0,none⟩ (.int .i64 r)) bs bq bc M r r:=by
 have:=h.lc
 exact ⟨(heap_setCell_ne (by omega) _).trans h.s,(heap_setCell_ne h.ne _).trans h.q,heap_setCell_lit (i:=0) h.c _,h.lq,h.lc,h.ne,h.f.setCell _ (.inr h.lc) _⟩
theorem Chn.drew {w w1:World} {bs bq bc:Nat} {M:Option Nat} {r c:Int} (h:Chn w w1 bs bq bc M r c):Chn w w1.drew bs bq bc M r c :=
 ⟨h.s,h.q,h.c,h.lq,h.lc,h.ne,h.f.drew⟩
structure Dis (bs bm bq bc:Nat):Prop where
 ms:bm≠bs
 qs:bq≠bs
 cs:bc≠bs
 mq:bm≠bq
 mc:bm≠bc
 qc:bq≠bc
theorem PC.setO {w:World} {bs bm bq bc:Nat} {r:Int} {o:Obj} (hd:Dis bs bm bq bc) (h:PC w.heap bs bm bq bc r o) (o':Obj):PC (setO w bm o').heap bs bm bq bc r o' :=
 ⟨(setO_ne _ _ _ _ hd.ms.symm).trans h.hs,setO_eq _ h.hm,(setO_ne _ _ _ _ hd.mq.symm).trans h.hq,h.hc.imp fun _ e=>(setO_ne _ _ _ _ hd.mc.symm).trans e⟩
structure PreF (w W:World) (bs:Nat) (r:Int):Prop where
 s:W.heap[bs]? = some (sBlk (some w.heap.size) none r)
 m:W.heap[w.heap.size]? = some (.map #[] 0)
 f:Fr [bs] w W
 lt:bs < w.heap.size
 sz:w.heap.size < W.heap.size
theorem PreF.below {w W W':World} {bs:Nat} {r:Int} (h:PreF w W bs r) (hb:Below W.heap.size W W'):PreF w W' bs r :=
 ⟨below_heap hb h.s,below_heap hb h.m,h.f.trans (Fr.of_below hb),h.lt,by have:=h.sz;have:=hb.size;omega⟩
theorem PreF.drew {w W:World} {bs:Nat} {r:Int} (h:PreF w W bs r):PreF w W.drew bs r:=⟨h.s,h.m,h.f.drew,h.lt,h.sz⟩
theorem PreF.step {w W W':World} {bs:Nat} {r:Int} (h:Hid (PreF w W bs r)) (hb:Below W.heap.size W W'):Hid (PreF w W' bs r):=h.out.below hb
end Go.Proofs.YthibodlojlkppaaGreatDoor.Ses

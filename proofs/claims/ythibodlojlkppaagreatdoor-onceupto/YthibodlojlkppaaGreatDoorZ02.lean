import Derived.Test.YthibodlojlkppaaGreatDoorZ01
import Derived.Deep.RegionHeld3
import Derived.Laws.IdiomStrings
import Derived.Laws.OwnMore
import Derived.Deep.Onto
import Derived.Maps.OwnSet
import Derived.Defers
import Derived.Recover
import Derived.Deep.AppendLies
import Derived.Maps.AppendAt
set_option linter.all false
set_option maxRecDepth 100000
set_option maxHeartbeats 40000000
namespace Go.Proofs.YthibodlojlkppaaGreatDoor
open Go.RowKit
structure RP (toks:List Tok) (rb tb cap:Nat) (a nest:Nat) (no:Bool) (hp:Array Obj):Prop where
 ne:tb≠rb
 p:hp[rb]? = some (.cells #[.slice (some ⟨tb,0,none⟩) toks.length cap,.int .i64 a,.int .i64 nest,.bool no] 999999999)
 t:∃cur,hp[tb]? = some (.cells cur 999999999)/\cur.toList.take (3*toks.length)=aV toks
section
variable {toks:List Tok} {rb tb cap a nest:Nat} {no:Bool} {w:World}
theorem RP.c0(h:RP toks rb tb cap a nest no w.heap):w.cell? ⟨rb,0,none⟩=some (.slice (some ⟨tb,0,none⟩) toks.length cap):=aA h.p
theorem RP.c1(h:RP toks rb tb cap a nest no w.heap):w.cell? ⟨rb,1,none⟩=some (.int .i64 a):=aA h.p
theorem RP.c2(h:RP toks rb tb cap a nest no w.heap):w.cell? ⟨rb,2,none⟩=some (.int .i64 nest):=aA h.p
theorem RP.c3(h:RP toks rb tb cap a nest no w.heap):w.cell? ⟨rb,3,none⟩=some (.bool no):=aA h.p
theorem RP.f(h:RP toks rb tb cap a nest no w.heap)(i:Nat):w.frozen? ⟨rb,i,none⟩=false:=aE h.p
theorem RP.below{w':World}(h:RP toks rb tb cap a nest no w.heap)(hb:Below w.heap.size w w'):RP toks rb tb cap a nest no w'.heap:=by
 obtain⟨cur,hc,ht⟩:=h.t;exact⟨h.ne,below_heap hb (aB h.p) h.p,cur,below_heap hb (aB hc) hc,ht⟩
theorem RP.at(h:RP toks rb tb cap a nest no w.heap)(b:Nat):RP toks rb tb cap b nest no (w.setCell ⟨rb,1,none⟩ (.int .i64 b)).heap:=by
 obtain⟨cur,hc,ht⟩:=h.t;exact⟨h.ne,aH (i:=1) h.p _,cur,(aD h.ne _).trans hc,ht⟩
end
def Oa(sl:Value)(ls:List ByteArray)(w:World):Prop:=
 (sl = .slice none 0 0/\ls = [])\/∃lb cur T,sl = .slice (some ⟨lb,0,none⟩) ls.length ls.length/\0<ls.length/\ls.length<=9/\w.heap[lb]? = some (.cells cur T)/\∀i,i<ls.length->cur[i]? = some (.string (ls.getD i ByteArray.empty))
theorem Oa.below{sl:Value}{ls:List ByteArray}{w w':World}(h:Oa sl ls w)(hb:Below w.heap.size w w'):Oa sl ls w':=by
 rcases h with h|⟨lb,cur,T,h1,h2,h3,h4,h5⟩
 . exact .inl h
 . exact .inr ⟨lb,cur,T,h1,h2,h3,below_heap hb (aB h4) h4,h5⟩
def strip:List UInt8->List UInt8
 | []=>[]
 | [c]=>[c]
 | c::d::r=>if c.toNat=48 then strip (d::r) else c::d::r
def oO(t:ByteArray):ByteArray:=⟨⟨strip t.data.toList⟩⟩
structure cY (K:Nat->Prop) (w w':World):Prop where
 size:w.heap.size<=w'.heap.size
 block:∀k,k<w.heap.size->K k->w'.heap[k]? = w.heap[k]?
theorem cY.refl(K:Nat->Prop)(w:World):cY K w w:=⟨Nat.le_refl _,fun _ _ _=>rfl⟩
theorem cY.trans{K:Nat->Prop}{a b c:World}(h:cY K a b)(k:cY K b c):cY K a c:=
 ⟨Nat.le_trans h.size k.size,fun i hi hn=>(k.block i (Nat.lt_of_lt_of_le hi h.size) hn).trans (h.block i hi hn)⟩
theorem cY.of_below{K:Nat->Prop}{a b:World}(k:Below a.heap.size a b):cY K a b:=⟨k.size,fun i hi _=>k.block i hi⟩
theorem cY.below{K:Nat->Prop}{a b c:World}(h:cY K a b)(k:Below b.heap.size b c):cY K a c:=h.trans (.of_below k)
theorem cY.alloc{K:Nat->Prop}{a b:World}(h:cY K a b)(o:Obj):cY K a (b.alloc o):=h.below ((Below.refl _ _).alloc (Nat.le_refl _) _)
theorem cY.set{K:Nat->Prop}{a b:World}(h:cY K a b){p:Addr}(hp:¬K p.block)(v:Value):cY K a (b.setCell p v):=
 ⟨by have:=h.size;simpa using this,fun k hk hn=>(Below.heap_setCell _ _ _ _ (fun e=>hp (e ▸ hn))).trans (h.block k hk hn)⟩
theorem cY.mono{K J:Nat->Prop}{a b:World}(h:cY K a b)(hJ:∀k,J k->K k):cY J a b:=⟨h.size,fun k hk hn=>h.block k hk (hJ k hn)⟩
def F9(K:Nat->Prop)(w:World)(e:Value)(s:ByteArray):Prop:=
 ∀w',cY K w w'->Calls Tryz.prog 999999999 #[e] w' fun e' w''=>e' = .returned (.string s)/\Below w'.heap.size w' w''
theorem F9.later{K:Nat->Prop}{w w':World}{e:Value}{s:ByteArray}(h:F9 K w e s)(hl:cY K w w'):F9 K w' e s:=fun w'' h2=>h w'' (hl.trans h2)
theorem cO{A B:Nat}{w w':World}(h:A<=B)(k:Below B w w'):Below A w w':=⟨k.os,k.tape,k.output,k.size,fun i hi=>k.block i (by omega)⟩
theorem aF{a b c:World}(h:Below a.heap.size a b)(k:Below b.heap.size b c):Below a.heap.size a c:=h.trans (cO h.size k)
def yV(t:ByteArray):ByteArray:=if iZ t then oO t else t
def O7(c:Int)(s:List UInt8):Prop:=(c=61/\s = [61,61])\/(c=43/\s = [43])\/(c=42/\s = [42])
structure Ob (K:Nat->Prop) (w:World) (R:Nat->Value->Value->Prop):Prop where
 leaf:∀(t:ByteArray) (x:Value) (ao:Option Addr) (m c:Nat),gN t=some x->t.size<=400->R 1 (.agg #[.int .u8 0,.string (yV t),.slice ao m c]) x
 pair:∀(oc:Int) (os:List UInt8) (pb n1 n2:Nat) (o1 o2:Int) (t1 t2:ByteArray) (a1 a2:Option Addr) (m1 c1 m2 c2:Nat) (l r:Value),O7 oc os->
  w.heap[pb]? = some (.cells #[.int .u8 o1,.string t1,.slice a1 m1 c1,.int .u8 o2,.string t2,.slice a2 m2 c2] 999999999)->K pb->
  R n1 (.agg #[.int .u8 o1,.string t1,.slice a1 m1 c1]) l->R n2 (.agg #[.int .u8 o2,.string t2,.slice a2 m2 c2]) r->
  R (n1+n2+1) (.agg #[.int .u8 oc,.string ⟨#[]⟩,.slice (some ⟨pb,0,none⟩) 2 2]) (lP ⟨⟨os⟩⟩ l r)
 choice:∀(pb n1 n2 n3:Nat) (o1 o2 o3:Int) (t1 t2 t3:ByteArray) (a1 a2 a3:Option Addr) (m1 c1 m2 c2 m3 c3:Nat) (x y z:Value),
  w.heap[pb]? = some (.cells #[.int .u8 o1,.string t1,.slice a1 m1 c1,.int .u8 o2,.string t2,.slice a2 m2 c2,.int .u8 o3,.string t3,.slice a3 m3 c3] 999999999)->K pb->
  R n1 (.agg #[.int .u8 o1,.string t1,.slice a1 m1 c1]) x->R n2 (.agg #[.int .u8 o2,.string t2,.slice a2 m2 c2]) y->R n3 (.agg #[.int .u8 o3,.string t3,.slice a3 m3 c3]) z->
  R (n1+n2+n3+4) (.agg #[.int .u8 63,.string ⟨#[]⟩,.slice (some ⟨pb,0,none⟩) 3 3]) (iF x y z)
def ME(K:Nat->Prop)(w:World)(n:Nat)(e x:Value):Prop:=∀R:Nat->Value->Value->Prop,Ob K w R->R n e x
theorem Eh{K:Nat->Prop}{n:Nat}{w w':World}{e x:Value}(h:ME K w n e x)(hl:cY K w w'):ME K w' n e x:=by
 intro R hR;refine h R ⟨hR.leaf,?_,?_⟩
 . intro oc os pb n1 n2 o1 o2 t1 t2 a1 a2 m1 c1 m2 c2 l r ho hh hne h1 h2
   exact hR.pair oc os pb n1 n2 o1 o2 t1 t2 a1 a2 m1 c1 m2 c2 l r ho ((hl.block pb (aB hh) hne).trans hh) hne h1 h2
 . intro pb n1 n2 n3 o1 o2 o3 t1 t2 t3 a1 a2 a3 m1 c1 m2 c2 m3 c3 x y z hh hne h1 h2 h3
   exact hR.choice pb n1 n2 n3 o1 o2 o3 t1 t2 t3 a1 a2 a3 m1 c1 m2 c2 m3 c3 x y z ((hl.block pb (aB hh) hne).trans hh) hne h1 h2 h3
theorem Ga{K J:Nat->Prop}{n:Nat}{w:World}{e x:Value}(h:ME K w n e x)(hJ:∀k,k<w.heap.size->K k->J k):ME J w n e x:=by
 intro R hR;refine h R ⟨hR.leaf,?_,?_⟩
 . intro oc os pb n1 n2 o1 o2 t1 t2 a1 a2 m1 c1 m2 c2 l r ho hh hne h1 h2
   exact hR.pair oc os pb n1 n2 o1 o2 t1 t2 a1 a2 m1 c1 m2 c2 l r ho hh (hJ pb (aB hh) hne) h1 h2
 . intro pb n1 n2 n3 o1 o2 o3 t1 t2 t3 a1 a2 a3 m1 c1 m2 c2 m3 c3 x y z hh hne h1 h2 h3
   exact hR.choice pb n1 n2 n3 o1 o2 o3 t1 t2 t3 a1 a2 a3 m1 c1 m2 c2 m3 c3 x y z hh (hJ pb (aB hh) hne) h1 h2 h3
theorem aK{w w':World}{p:Addr}{v:Value}(hb:Below w.heap.size w w')(h:w.cell? p=some v):w'.cell? p=some v:=by
 have hlt:p.block<w.heap.size:=by
  rcases Nat.lt_or_ge p.block w.heap.size with h1|h1
  . exact h1
  . simp[World.cell?,Array.getElem?_eq_none h1] at h
 rw[<-h];simp[World.cell?,hb.block _ hlt]
theorem aJ(w:World):Below w.heap.size w w.drew:=⟨rfl,rfl,rfl,Nat.le_refl _,fun _ _=>rfl⟩
theorem cG(w:World)(o:Obj):Below w.heap.size w (w.alloc o):=(Below.refl _ _).alloc (Nat.le_refl _) _
end Go.Proofs.YthibodlojlkppaaGreatDoor
namespace Go.Proofs.YthibodlojlkppaaGreatDoor
open Go.RowKit
variable [DecidableEq K] [LawfulBEq Lk]
structure FR (O:Nat->Prop) (w w':World):Prop where
 os:w'.os=w.os
 tape:w'.tape=w.tape
 output:w'.output=w.output
 size:w.heap.size<=w'.heap.size
 block:∀k,k<w.heap.size->¬O k->w'.heap[k]? = w.heap[k]?
theorem FR.refl(O:Nat->Prop)(w:World):FR O w w:=⟨rfl,rfl,rfl,Nat.le_refl _,fun _ _ _=>rfl⟩
theorem FR.of_below{O:Nat->Prop}{w w':World}(h:Below w.heap.size w w'):FR O w w':=⟨h.os,h.tape,h.output,h.size,fun k hk _=>h.block k hk⟩
theorem FR.heap{O:Nat->Prop}{w w':World}(h:FR O w w'){b:Nat}{o:Obj}(hb:w.heap[b]? = some o)(hn:¬O b):w'.heap[b]? = some o:=(h.block b (aB hb) hn).trans hb
theorem FR.drew{O:Nat->Prop}{a w:World}(h:FR O a w):FR O a w.drew:=⟨h.os,h.tape,h.output,h.size,h.block⟩
theorem FR.alloc{O:Nat->Prop}{a w:World}(h:FR O a w)(o:Obj):FR O a (w.alloc o):=
 ⟨h.os,h.tape,h.output,by have:=h.size;simp;omega,fun k hk hn=>by
  rw[Below.heap_alloc _ _ _ (by have:=h.size;omega)];exact h.block k hk hn⟩
theorem FR.setCell{O:Nat->Prop}{a w:World}(h:FR O a w)(p:Addr)(hp:O p.block\/a.heap.size<=p.block)(u:Value):FR O a (w.setCell p u):=
 ⟨h.os,h.tape,h.output,by have:=h.size;simpa[World.setCell] using this,fun k hk hn=>by
  have hne:k≠p.block:=by
   rintro rfl;rcases hp with hp|hp
   . exact hn hp
   . omega
  rw[Below.heap_setCell _ _ _ _ hne];exact h.block k hk hn⟩
theorem FR.trans{O O':Nat->Prop}{a b c:World}(h:FR O a b)(k:FR O' b c)(ho:∀i,O' i->O i\/a.heap.size<=i):FR O a c:=
 ⟨k.os.trans h.os,k.tape.trans h.tape,k.output.trans h.output,Nat.le_trans h.size k.size,fun i hi hn=>
  (k.block i (Nat.lt_of_lt_of_le hi h.size) fun e=>(ho i e).elim hn fun x=>by omega).trans (h.block i hi hn)⟩
theorem FR.mono{O O':Nat->Prop}{w w':World}(h:FR O w w')(ho:∀i,O i->O' i\/w.heap.size<=i):FR O' w w':=
 ⟨h.os,h.tape,h.output,h.size,fun k hk hn=>h.block k hk fun e=>(ho k e).elim hn fun x=>by omega⟩
theorem FR.grown{O:Nat->Prop}{a w w':World}(h:FR O a w){row:Option Nat}(hg:w.grownBy w' row)(hr:∀g,row=some g->O g\/a.heap.size<=g):FR O a w':=
 ⟨hg.os.trans h.os,hg.tape.trans h.tape,hg.output.trans h.output,Nat.le_trans h.size hg.size,fun k hk hn=>
  (hg.block k (Nat.lt_of_lt_of_le hk h.size) fun e=>(hr k e.symm).elim hn fun x=>by omega).trans (h.block k hk hn)⟩
structure aM where
 bk:K->Nat
 sb:ByteArray->Nat
 own:Nat->Prop
def TI(k:K):TypeId:=if k.kind=2 then 178 else if k.kind=3 then 184 else if k.kind=4 then 189 else 165
def TB(k:K):TypeId:=if k.kind=2 then 181 else if k.kind=3 then 187 else if k.kind=4 then 192 else 175
def gC(k:K):List Value:=[.int .i64 k.kind,.string k.file,.string k.name]
abbrev ptr(b:Nat):Value:=.pointer (some ⟨b,0,none⟩)
def aY(L:aM)(k:K):Value:=.iface (TI k) (ptr (L.bk k))
def lkV(L:aM):Lk->Value
 | .inl f=>.iface 163 (ptr (L.sb f))
 | .inr k=>aY L k
def Row(O:Nat->Prop)(w:World)(T:TypeId)(v:Value)(n:Nat)(xs:List Value):Prop:=
 ∃ao c,v = .slice ao n c/\n<=c/\(0<n->∃g cur,ao=some ⟨g,0,none⟩/\¬O g/\w.heap[g]? = some (.cells cur T)/\cur.toList.take xs.length=xs)
theorem Row.next{O O':Nat->Prop}{w w':World}{T:TypeId}{v:Value}{n:Nat}{xs:List Value}(h:Row O w T v n xs)(hf:FR O w w')(ho:∀i,O' i->O i\/w.heap.size<=i):Row O' w' T v n xs:=by
 obtain⟨ao,c,hv,hc,hg⟩:=h;refine⟨ao,c,hv,hc,fun hn=>?_⟩;obtain⟨g,cur,h1,h2,h3,h4⟩:=hg hn;have:=aB h3
 exact⟨g,cur,h1,fun e=>(ho g e).elim h2 fun x=>by omega,hf.heap h3 h2,h4⟩
def bO(O:Nat->Prop)(w:World)(kind:Nat):Option V->List Value->Prop
 | some (.inl l),vs=>(kind=2/\∃s:ByteArray,s.size<=400/\l=aN s)/\∃v,vs = [v]/\Row O w 121 v l.length (aV l)
 | some (.inr (.inl (its,f))),vs=>(kind=3/\∃s:ByteArray,s.size<=400/\(its,f)=bY (aN s))/\∃v,vs = [v,cU f]/\Row O w 137 v its.length ((its.map cI).flatMap aP)
 | some (.inr (.inr (.inl l))),vs=>(kind=4/\∃s:ByteArray,s.size<=400/\l=iQ (bY (aN s)).1)/\∃v,vs = [v]/\Row O w 9 v l.length (l.map .string)
 | some (.inr (.inr (.inr b))),vs=>kind≠2/\kind≠3/\kind≠4/\vs = [.string b]
 | none,vs=>if kind=2 then ∃a m c,vs = [.slice a m c] else if kind=3 then ∃a m c f,vs = [.slice a m c,.int .i64 f] else if kind=4 then ∃a m c,vs = [.slice a m c] else ∃b,vs = [.string b]
theorem bO.next{O O':Nat->Prop}{w w':World}{kind:Nat}{x:Option V}{vs:List Value}(h:bO O w kind x vs)(hf:FR O w w')(ho:∀i,O' i->O i\/w.heap.size<=i):bO O' w' kind x vs:=by
 match x,h with
 | some (.inl l),⟨a,v,b,c⟩=>exact⟨a,v,b,c.next hf ho⟩
 | some (.inr (.inl (its,f))),⟨a,v,b,c⟩=>exact⟨a,v,b,c.next hf ho⟩
 | some (.inr (.inr (.inl l))),⟨a,v,b,c⟩=>exact⟨a,v,b,c.next hf ho⟩
 | some (.inr (.inr (.inr b))),h=>exact h
 | none,h=>exact h
def cF(kind:Nat):FuncId:=if kind=1 then 59 else if kind=2 then 63 else if kind=3 then 67 else if kind=4 then 71 else if kind=5 then 74 else if kind=6 then 75 else if kind=7 then 76 else 77
def cB(bs kind:Nat):List Value:=
 .func (.func (cF kind)) #[ptr bs] #[] ::
  (if kind=2 then [.func (.func 64) #[] #[],.slice none 0 0]
  else if kind=3 then [.func (.func 68) #[] #[],.slice none 0 0,.int .i64 0]
  else if kind=4 then [.func (.func 72) #[] #[],.slice none 0 0]
  else [.func (.func 89) #[] #[],.string (if kind=7 then dA else bA)])
def wK:Option Nat->Value
 | none=>.int .i64 (-1)
 | some v=>.int .i64 v
structure Jb where
 la:Option Addr
 ln:Nat
 lc:Nat
 ch:Int
 fk:Bool
def aX(bs:Nat)(k:K)(m:bU V)(lp:Bool)(x:Jb)(pl:Int)(vs:List Value):List Value:=
 .pointer (some ⟨bs,1,none⟩)::.int .i64 k.kind::.string k.file::.string k.name::.bool m.act::.bool lp::.slice x.la x.ln x.lc::wK m.ver::.int .i64 x.ch::.bool x.fk::.int .i64 pl::.int .u64 m.used::(cB bs k.kind++vs)
def SB(w:World)(p:Nat)(T:TypeId)(xs:List Value):Prop:=w.heap[p]? = some (.cells ⟨xs⟩ T)
def kA(arr:List K)(k:K):Int:=if k∈arr then (arr.idxOf k:Int) else -1
structure K6 (L:aM) (lp:Option K) (bs:Nat) (pl:Int) (k:K) (m:bU V) (w:World):Prop where
 ex:∃x vs,SB w (L.bk k) (TB k) (aX bs k m (decide (lp=some k)) x pl vs)/\bO L.own w k.kind m.val vs
 own:L.own (L.bk k)
def KI(sl:K->Option (bU V))(L:aM)(sm:Value)(w:World):Prop:=
 (sm = .map none/\∀k,sl k=none)\/∃b es n,sm = .map (some b)/\L.own b/\w.heap[b]? = some (.map es n)/\∃ks:List K,es.toList.map (fun e=>(e.key,e.val))=ks.map (fun k=>(.agg ⟨gC k⟩,aY L k))/\ks.Nodup/\∀k,k∈ks↔sl k≠none
def MF(src:ByteArray->Option Nat)(L:aM)(q:Value)(w:World):Prop:=
 (q = .map none/\∀f,src f=none)\/∃b es n,q = .map (some b)/\L.own b/\w.heap[b]? = some (.map es n)/\∃fs:List ByteArray,es.toList.map (fun e=>(e.key,e.val))=fs.map (fun f=>(.string f,ptr (L.sb f)))/\fs.Nodup/\∀f,f∈fs↔src f≠none
def bH(st:St V)(k:K):Nat:=((st.sl k).map (·.used)).getD 0
def oP(O:Nat->Prop)(w:World)(T:TypeId)(size:Nat)(v:Value)(n:Nat)(xs:List Value):Prop:=w.ownsRow 0 T size v n xs/\∀g,v.ownBlock=some g->O g
structure ENGp (st:St V) (L:aM) (lp:Option K) (bs:Nat) (fm:Value) (q sm bg kv:Value) (arr:List K) (w:World):Prop where
 s:w.heap[bs]? = some (.cells #[fm,.int .i64 st.rev,q,sm,bg,kv,.int .u64 st.uses] 66)
 bo:L.own bs
 olt:∀b,L.own b->b<w.heap.size
 sr:MF st.src L q w
 srb:∀f c,st.src f=some c->L.own (L.sb f)/\w.heap[L.sb f]? = some (.cells #[.int .i64 c] 162)
 sri:∀f g,st.src f≠none->st.src g≠none->L.sb f=L.sb g->f=g
 qm:∀b,q = .map (some b)->sm ≠ .map (some b)
 sm:KI st.sl L sm w
 bg:oP L.own w 99 3 bg st.began.length (st.began.flatMap gC)
 kv:oP L.own w 94 1 kv arr.length (arr.map (aY L))
 perm:arr.Perm st.kept
 nd:arr.Nodup
 kl:st.kept.length<=cD
 ex:∀k∈arr,st.sl k≠none
 cell:∀k m,st.sl k=some m->K6 L lp bs (kA arr k) k m w
structure cV (st:St V) (L:aM) (lp:Option K) (bs:Nat) (fm:Value) (q sm bg kv:Value) (arr:List K) (w:World):Prop extends ENGp st L lp bs fm q sm bg kv arr w where
 heap:HN (bH st) arr arr.length
def bN(st:St V)(L:aM)(lp:Option K)(bs:Nat)(fm:Value)(w:World):Prop:=∃q sm bg kv arr,cV st L lp bs fm q sm bg kv arr w
structure Next (st st':St V) (L L':aM) (w w':World):Prop where
 bk:∀k,st.sl k≠none->st'.sl k≠none/\L'.bk k=L.bk k
 sb:∀f,st.src f≠none->st'.src f≠none/\L'.sb f=L.sb f
 own:∀b,L'.own b->L.own b\/w.heap.size<=b
 fr:FR L.own w w'
theorem Next.trans{st st1 st2:St V}{L L1 L2:aM}{w w1 w2:World}(h:Next st st1 L L1 w w1)(g:Next st1 st2 L1 L2 w1 w2):Next st st2 L L2 w w2:=
 ⟨fun k hk=>⟨(g.bk k (h.bk k hk).1).1,(g.bk k (h.bk k hk).1).2.trans (h.bk k hk).2⟩,fun f hf=>⟨(g.sb f (h.sb f hf).1).1,(g.sb f (h.sb f hf).1).2.trans (h.sb f hf).2⟩,fun b hb=>by
  rcases g.own b hb with h1|h1
  . exact h.own b h1
  . exact .inr (Nat.le_trans h.fr.size h1),h.fr.trans g.fr fun i hi=>h.own i hi⟩
theorem Next.blk{st st':St V}{L L':aM}{w w':World}(h:Next st st' L L' w w'){b:Nat}{o:Obj}(hb:w.heap[b]? = some o)(hn:¬L.own b):w'.heap[b]? = some o/\¬L'.own b:=by
 have:=aB hb
 exact⟨h.fr.heap hb hn,fun e=>(h.own b e).elim hn fun x=>by omega⟩
structure FM (W0:World) (F:ByteArray->Option ByteArray) (L:aM) (fm:Value) (w:World):Prop where
 sm:∀f x,F f=some x->x.size<=400
 mp:(fm = .map none/\∀f,F f=none)\/∃b es n,fm = .map (some b)/\¬L.own b/\w.heap[b]? = some (.map es n)/\∃fs:List (ByteArray×ByteArray),es.toList.map (fun e=>(e.key,e.val))=fs.map (fun p=>(.string p.1,.agg #[.string p.2]))/\(fs.map (·.1)).Nodup/\∀f x,(f,x)∈fs↔F f=some x
 low:Below W0.heap.size W0 w
 ow:∀b,L.own b->W0.heap.size<=b
theorem FM.next{W0:World}{F:ByteArray->Option ByteArray}{st st':St V}{L L':aM}{fm:Value}{w w':World}(h:FM W0 F L fm w)(hN:Next st st' L L' w w'):FM W0 F L' fm w':=by
 refine⟨h.sm,h.mp.imp id ?_,⟨hN.fr.os.trans h.low.os,hN.fr.tape.trans h.low.tape,hN.fr.output.trans h.low.output,Nat.le_trans h.low.size hN.fr.size,fun k hk=>?_⟩,fun b hb=>?_⟩
 . rintro⟨b,es,n,h1,h2,h3,h4⟩
   exact⟨b,es,n,h1,(hN.blk h3 h2).2,(hN.blk h3 h2).1,h4⟩
 . exact (hN.fr.block k (Nat.lt_of_lt_of_le hk h.low.size) fun e=>by have:=h.ow k e;omega).trans (h.low.block k hk)
 . rcases hN.own b hb with h1|h1
   . exact h.ow b h1
   . exact Nat.le_trans h.low.size h1
theorem FM.below{W0:World}{F:ByteArray->Option ByteArray}{L:aM}{fm:Value}{w w':World}(h:FM W0 F L fm w)(hb:Below w.heap.size w w'):FM W0 F L fm w':=by
 refine⟨h.sm,h.mp.imp id ?_,aF h.low hb,h.ow⟩;rintro⟨b,es,n,h1,h2,h3,h4⟩;exact⟨b,es,n,h1,h2,(hb.block b (aB h3)).trans h3,h4⟩
theorem Next.lkV{st st':St V}{L L':aM}{w w':World}(h:Next st st' L L' w w'){l:Lk}(hl:match l with | .inl f=>st.src f≠none | .inr j=>st.sl j≠none):lkV L' l=lkV L l:=by
 cases l with
 | inl f=>simp only[Go.Proofs.YthibodlojlkppaaGreatDoor.lkV,(h.sb f hl).2]
 | inr k=>simp only[Go.Proofs.YthibodlojlkppaaGreatDoor.lkV,aY,(h.bk k hl).2]
theorem Row.keep{O:Nat->Prop}{w w':World}{T:TypeId}{v:Value}{n:Nat}{xs:List Value}(h:Row O w T v n xs)(hk:∀(b:Nat) (o:Obj),¬O b->w.heap[b]? = some o->w'.heap[b]? = some o):Row O w' T v n xs:=by
 obtain⟨ao,c,hv,hc,hg⟩:=h;refine⟨ao,c,hv,hc,fun hn=>?_⟩;obtain⟨g,cur,h1,h2,h3,h4⟩:=hg hn;exact⟨g,cur,h1,h2,hk g _ h2 h3,h4⟩
theorem bO.keep{O:Nat->Prop}{w w':World}{kind:Nat}{x:Option V}{vs:List Value}(h:bO O w kind x vs)(hk:∀(b:Nat) (o:Obj),¬O b->w.heap[b]? = some o->w'.heap[b]? = some o):bO O w' kind x vs:=by
 match x,h with
 | some (.inl l),⟨a,v,b,c⟩=>exact⟨a,v,b,c.keep hk⟩
 | some (.inr (.inl (its,f))),⟨a,v,b,c⟩=>exact⟨a,v,b,c.keep hk⟩
 | some (.inr (.inr (.inl l))),⟨a,v,b,c⟩=>exact⟨a,v,b,c.keep hk⟩
 | some (.inr (.inr (.inr b))),h=>exact h
 | none,h=>exact h
theorem fU{k:K}:TB k≠66/\TB k≠162/\TB k≠99/\TB k≠94:=by
 unfold TB;repeat' split
 all_goals decide
theorem oP.keep{O:Nat->Prop}{w w':World}{T:TypeId}{size n:Nat}{v:Value}{xs:List Value}(h:oP O w T size v n xs)(hk:∀(b:Nat) (cs:Array Value),w.heap[b]? = some (.cells cs T)->w'.heap[b]? = some (.cells cs T)):oP O w' T size v n xs:=by
 obtain⟨⟨hl,h1|⟨g,cap,cur,h1,h2,h3,h4⟩⟩,ho⟩:=h
 . exact⟨⟨hl,.inl h1⟩,ho⟩
 . exact⟨⟨hl,.inr ⟨g,cap,cur,h1,h2,hk _ _ h3,h4⟩⟩,ho⟩
theorem KI.keep{sl:K->Option (bU V)}{L:aM}{sm:Value}{w w':World}(h:KI sl L sm w)(hk:∀(b:Nat) (es:Array MapEntry) (n:Nat),w.heap[b]? = some (.map es n)->w'.heap[b]? = some (.map es n)):KI sl L sm w':=by
 rcases h with h|⟨b,es,n,h1,h2,h3,h4⟩
 . exact .inl h
 . exact .inr ⟨b,es,n,h1,h2,hk _ _ _ h3,h4⟩
theorem KI.sl{sl sl':K->Option (bU V)}{L:aM}{sm:Value}{w:World}(h:KI sl L sm w)(hs:∀k,sl' k=none↔sl k=none):KI sl' L sm w:=by
 rcases h with ⟨h1,h2⟩|⟨b,es,n,h1,h2,h3,ks,h4,h5,h6⟩
 . exact .inl ⟨h1,fun k=>(hs k).2 (h2 k)⟩
 . exact .inr ⟨b,es,n,h1,h2,h3,ks,h4,h5,fun k=>(h6 k).trans (not_congr (hs k).symm)⟩
theorem MF.keep{src:ByteArray->Option Nat}{L:aM}{q:Value}{w w':World}(h:MF src L q w)(hk:∀(b:Nat) (es:Array MapEntry) (n:Nat),w.heap[b]? = some (.map es n)->w'.heap[b]? = some (.map es n)):MF src L q w':=by
 rcases h with h|⟨b,es,n,h1,h2,h3,h4⟩
 . exact .inl h
 . exact .inr ⟨b,es,n,h1,h2,hk _ _ _ h3,h4⟩
theorem ENGp.bk_inj{st:St V}{L:aM}{lp:Option K}{bs:Nat}{fm q sm bg kv:Value}{arr:List K}{w:World}(h:ENGp st L lp bs fm q sm bg kv arr w){j k:K}(hj:st.sl j≠none)(hk:st.sl k≠none)(e:L.bk j=L.bk k):j=k:=by
 obtain⟨mj,hj⟩:=Option.ne_none_iff_exists'.1 hj;obtain⟨mk,hk⟩:=Option.ne_none_iff_exists'.1 hk;obtain⟨x1,vs1,s1,_⟩:=(h.cell j mj hj).ex;obtain⟨lk2,vs2,s2,_⟩:=(h.cell k mk hk).ex;rw[SB,e] at s1;have:=s1.symm.trans s2
 injection this with this;injection this with this _ _;simp only[aX,Array.mk.injEq,List.cons.injEq,Value.int.injEq,Value.string.injEq,true_and] at this;obtain⟨a,b,c,_⟩:=this;cases j;cases k;simp only at a b c;simp only[K.mk.injEq];exact⟨by omega,b,c⟩
theorem tR{st:St V}{k:K}{m m':bU V}(hk:st.sl k=some m)(hu:m'.used=m.used):bH (st.put k m')=bH st:=by
 funext j;unfold bH;by_cases hj:j=k
 . subst hj;simp[St.put,hk,hu]
 . simp[St.put,hj]
theorem ENGp.slot{st:St V}{L:aM}{lp lp':Option K}{bs:Nat}{fm q sm bg kv:Value}{arr:List K}{w w':World}(h:ENGp st L lp bs fm q sm bg kv arr w){k:K}{m m':bU V}(hk:st.sl k=some m)
 (hb:∀b:Nat,b≠L.bk k->w'.heap[b]? = w.heap[b]?) (hs:w.heap.size<=w'.heap.size)
 (hsb:∃x vs,SB w' (L.bk k) (TB k) (aX bs k m' (decide (lp'=some k)) x (kA arr k) vs)/\bO L.own w k.kind m'.val vs) (hlp:∀j,j≠k->(decide (lp'=some j)=decide (lp=some j))):ENGp (st.put k m') L lp' bs fm q sm bg kv arr w':=by
 have ho:=(h.cell k m hk).own;obtain⟨lk0,vs0,hsb0,_⟩:=(h.cell k m hk).ex;have hT:=fU (k:=k);have hne:∀(b:Nat) (cs:Array Value) (T:TypeId),w.heap[b]? = some (.cells cs T)->T≠TB k->w'.heap[b]? = some (.cells cs T):=fun b cs T hbo hn=>by
  rw[hb b fun e=>?_]
  . exact hbo
  . rw[e,hsb0] at hbo;injection hbo with hbo;injection hbo with _ h2;exact hn h2.symm
 have hmap:∀(b:Nat) (es:Array MapEntry) (n:Nat),w.heap[b]? = some (.map es n)->w'.heap[b]? = some (.map es n):=fun b es n hbo=>by
  rw[hb b fun e=>?_]
  . exact hbo
  . rw[e,hsb0] at hbo;injection hbo with hbo;cases hbo
 have hout:∀(b:Nat) (o:Obj),¬L.own b->w.heap[b]? = some o->w'.heap[b]? = some o:=fun b o hn hbo=>by
  rw[hb b fun e=>hn (e ▸ ho)];exact hbo
 have hex:∀j,st.sl j≠none->(st.put k m').sl j≠none:=fun j hj=>by
  simp only[St.put];split
  . simp
  . exact hj
 refine⟨hne _ _ _ h.s hT.1.symm,h.bo,fun b hbo=>Nat.lt_of_lt_of_le (h.olt b hbo) hs,h.sr.keep hmap,fun f c hf=>⟨(h.srb f c hf).1,hne _ _ _ (h.srb f c hf).2 hT.2.1.symm⟩,h.sri,h.qm,(h.sm.keep hmap).sl fun j=>?_,h.bg.keep fun b cs hbo=>hne _ _ _ hbo hT.2.2.1.symm,h.kv.keep fun b cs hbo=>hne _ _ _ hbo hT.2.2.2.symm,h.perm,h.nd,h.kl,fun j hj=>hex j (h.ex j hj),fun j n hj=>?_⟩
 . by_cases hjk:j=k
   . subst hjk;simp[St.put,hk]
   . simp[St.put,hjk]
 . by_cases hjk:j=k
   . subst hjk
     simp[St.put] at hj;subst hj;obtain⟨x,vs,a,c⟩:=hsb;exact⟨⟨x,vs,a,c.keep hout⟩,ho⟩
   . have hj':st.sl j=some n:=by simpa[St.put,hjk] using hj
     have hc:=h.cell j n hj';obtain⟨x,vs,a,c⟩:=hc.ex;have hbne:L.bk j≠L.bk k:=fun e=>hjk (h.bk_inj (by rw[hj'];simp) (by rw[hk];simp) e);refine⟨⟨x,vs,?_,c.keep hout⟩,hc.own⟩;rw[hlp j hjk];exact (hb _ hbne).trans a
theorem cV.set{st:St V}{L:aM}{lp lp':Option K}{bs:Nat}{fm q sm bg kv:Value}{arr:List K}{w:World}(h:cV st L lp bs fm q sm bg kv arr w){k:K}{m m':bU V}(hk:st.sl k=some m)(i:Nat)(v:Value)
 (hc:∀x pl vs,(aX bs k m (decide (lp=some k)) x pl vs).set i v=aX bs k m' (decide (lp'=some k)) x pl vs) (hv:m'.val=m.val) (hu:m'.used=m.used) (hlp:∀j,j≠k->(decide (lp'=some j)=decide (lp=some j))):cV (st.put k m') L lp' bs fm q sm bg kv arr (w.setCell ⟨L.bk k,i,none⟩ v):=by
 have hc0:=h.cell k m hk;obtain⟨x,vs,a,c⟩:=hc0.ex;refine⟨h.slot hk (fun b hb=>aD hb v) (by simp) ⟨x,vs,?_,by rw[hv];exact c⟩ hlp,by rw[tR hk hu];exact h.heap⟩;rw[<-hc];have:=aH (i:=i) a v
 simpa[SB] using this
theorem ENGp.below{st:St V}{L:aM}{lp:Option K}{bs:Nat}{fm q sm bg kv:Value}{arr:List K}{w w':World}(h:ENGp st L lp bs fm q sm bg kv arr w)(hb:Below w.heap.size w w'):ENGp st L lp bs fm q sm bg kv arr w':=by
 have hk:∀(b:Nat) (o:Obj),w.heap[b]? = some o->w'.heap[b]? = some o:=fun b o hbo=>below_heap hb (aB hbo) hbo;refine⟨hk _ _ h.s,h.bo,fun b hbo=>Nat.lt_of_lt_of_le (h.olt b hbo) hb.size,h.sr.keep fun b es n=>hk b _,fun f c hf=>⟨(h.srb f c hf).1,hk _ _ (h.srb f c hf).2⟩,h.sri,h.qm,h.sm.keep fun b es n=>hk b _,h.bg.keep fun b cs=>hk b _,h.kv.keep fun b cs=>hk b _,h.perm,h.nd,h.kl,h.ex,fun j n hj=>?_⟩;have hc:=h.cell j n hj;obtain⟨x,vs,a,c⟩:=hc.ex;exact⟨⟨x,vs,hk _ _ a,c.keep fun b o _=>hk b o⟩,hc.own⟩
theorem cV.below{st:St V}{L:aM}{lp:Option K}{bs:Nat}{fm q sm bg kv:Value}{arr:List K}{w w':World}(h:cV st L lp bs fm q sm bg kv arr w)(hb:Below w.heap.size w w'):cV st L lp bs fm q sm bg kv arr w':=⟨h.toENGp.below hb,h.heap⟩
theorem Next.refl(st:St V)(L:aM)(w:World):Next st st L L w w:=⟨fun _ h=>⟨h,rfl⟩,fun _ h=>⟨h,rfl⟩,fun _ h=>.inl h,FR.refl _ _⟩
theorem Next.below{st st':St V}{L L':aM}{w w1 w2:World}(h:Next st st' L L' w w1)(hb:Below w1.heap.size w1 w2):Next st st' L L' w w2:=⟨h.bk,h.sb,h.own,h.fr.trans (O':=fun _=>False) (FR.of_below hb) fun _ x=>x.elim⟩
theorem Cf{st:St V}{k:K}{m:bU V}{j:K}(h:st.sl j≠none):(st.put k m).sl j≠none:=by
 simp only[St.put];split
 . simp
 . exact h
theorem Next.put{st:St V}{L:aM}{w w':World}{k:K}{m:bU V}(hf:FR L.own w w'):Next st (st.put k m) L L w w':=⟨fun _ h=>⟨Cf h,rfl⟩,fun _ h=>⟨h,rfl⟩,fun _ h=>.inl h,hf⟩
end Go.Proofs.YthibodlojlkppaaGreatDoor
namespace Go.Proofs.YthibodlojlkppaaGreatDoor.Ses
open Go.RowKit
structure Fr (S:List Nat) (w w':World):Prop where
 os:w'.os=w.os
 tape:w'.tape=w.tape
 output:w'.output=w.output
 size:w.heap.size<=w'.heap.size
 block:∀k,k<w.heap.size->k∉S->w'.heap[k]? = w.heap[k]?
theorem Fr.refl(S:List Nat)(w:World):Fr S w w:=⟨rfl,rfl,rfl,Nat.le_refl _,fun _ _ _=>rfl⟩
theorem Fr.drew{S:List Nat}{a w:World}(h:Fr S a w):Fr S a w.drew:=⟨h.os,h.tape,h.output,h.size,h.block⟩
theorem Fr.alloc{S:List Nat}{a w:World}(h:Fr S a w)(o:Obj):Fr S a (w.alloc o):=
 ⟨h.os,h.tape,h.output,by have:=h.size;simp;omega,fun k hk hn=>by
  rw[Below.heap_alloc _ _ _ (by have:=h.size;omega)];exact h.block k hk hn⟩
theorem Fr.setCell{S:List Nat}{a w:World}(h:Fr S a w)(p:Addr)(hp:p.block∈S\/a.heap.size<=p.block)(u:Value):Fr S a (w.setCell p u):=
 ⟨h.os,h.tape,h.output,by have:=h.size;simpa[World.setCell] using this,fun k hk hn=>by
  have hne:k≠p.block:=by
   rintro rfl;rcases hp with hp|hp
   . exact hn hp
   . omega
  rw[Below.heap_setCell _ _ _ _ hne];exact h.block k hk hn⟩
theorem Fr.trans{S:List Nat}{a b c:World}(h:Fr S a b)(k:Fr S b c):Fr S a c:=
 ⟨k.os.trans h.os,k.tape.trans h.tape,k.output.trans h.output,Nat.le_trans h.size k.size,fun i hi hn=>
  (k.block i (Nat.lt_of_lt_of_le hi h.size) hn).trans (h.block i hi hn)⟩
theorem Fr.mono{S T:List Nat}{w w':World}(h:Fr S w w')(hs:∀k,k∈S->k∈T\/w.heap.size<=k):Fr T w w':=
 ⟨h.os,h.tape,h.output,h.size,fun k hk hn=>h.block k hk fun e=>by
  rcases hs k e with h1|h1
  . exact hn h1
  . omega⟩
theorem Fr.of_below{S:List Nat}{w w':World}(h:Below w.heap.size w w'):Fr S w w':=
 ⟨h.os,h.tape,h.output,h.size,fun k hk _=>h.block k hk⟩
theorem Fr.cell{S:List Nat}{w w':World}(h:Fr S w w'){p:Addr}(hp:p.block<w.heap.size)(hn:p.block∉S):w'.cell? p=w.cell? p:=
 World.cell?_of_block (w:=w) (h.block p.block hp hn)
theorem aA{w:World}{b i:Nat}{cs:Array Value}{T:TypeId}{fr:Nat×Nat}(h:w.heap[b]? = some (.cells cs T fr)):w.cell? ⟨b,i,none⟩=cs[i]?:=by
 simp[World.cell?,h]
theorem aE{w:World}{b i:Nat}{cs:Array Value}{T:TypeId}(h:w.heap[b]? = some (.cells cs T)):w.frozen? ⟨b,i,none⟩=false:=by
 simp[World.frozen?,h]
theorem setCell_same{w:World}{b i:Nat}{v:Value}(h:w.cell? ⟨b,i,none⟩=some v):w.setCell ⟨b,i,none⟩ v=w:=by
 unfold World.cell? at h;have:(w.setCell ⟨b,i,none⟩ v).heap=w.heap:=by
  apply Array.ext_getElem?;intro k;simp only[World.setCell,Array.getElem?_modify];split
  . next e=>
    subst e;revert h;cases hb:w.heap[b]? with
    | none=>simp
    | some o=>
     cases o with
     | cells c T fr=>
      intro h;simp at h;simp;apply Array.ext_getElem?;intro j;rw[Array.getElem?_setIfInBounds];split
      . next e=>subst e;rw[h];split <;> simp_all
      . rfl
     | _=>simp
  . rfl
 show ({w with heap:=(w.setCell ⟨b,i,none⟩ v).heap}:World)=w;rw[this]
theorem aH{w:World}{b i:Nat}{cs:Array Value}{T:TypeId}{fr:Nat×Nat}(h:w.heap[b]? = some (.cells cs T fr))(v:Value) :
 (w.setCell ⟨b,i,none⟩ v).heap[b]? = some (.cells (cs.setIfInBounds i v) T fr):=by
 simp[World.setCell,Array.getElem?_modify,h]
theorem aD{w:World}{b k i:Nat}(h:k≠b)(v:Value):(w.setCell ⟨b,i,none⟩ v).heap[k]? = w.heap[k]?:=Below.heap_setCell _ _ _ _ h
theorem aB{w:World}{b:Nat}{o:Obj}(h:w.heap[b]? = some o):b<w.heap.size:=(Array.getElem?_eq_some_iff.1 h).1
theorem below_heap{w w':World}(hb:Below w.heap.size w w'){b:Nat}{o:Obj}(h:w.heap[b]? = some o):w'.heap[b]? = some o:=by
 rw[hb.block b (aB h)];exact h
theorem isKA:MapKept.IsKey .string (.string ⟨#[97]⟩):=by simp[MapKept.IsKey]
def qEs(bc:Nat):Array MapEntry:=#[{key:=.string ⟨#[97]⟩,val:=.pointer (some ⟨bc,0,none⟩),born:=0}]
def qBlk(bc:Nat):Obj:=.map (qEs bc) 1
theorem findQ(bc:Nat):Instr.findNow .string (.string ⟨#[97]⟩) (qEs bc).toList 0=some (some (0,.pointer (some ⟨bc,0,none⟩))):=rfl
theorem lookq_nil(w:World):(Instr.lookup 57 (.map none) (.string ⟨#[97]⟩) true).run Tryz.prog w = .ok (.tuple #[.pointer none,.bool false]) w:=by
 kernel_rfl
theorem lookq_one(w:World)(b bc:Nat)(h:w.heap[b]? = some (qBlk bc)) :
 (Instr.lookup 57 (.map (some b)) (.string ⟨#[97]⟩) true).run Tryz.prog w = .ok (.tuple #[.pointer (some ⟨bc,0,none⟩),.bool true]) w:=by
 simp[Instr.lookup,run_underlying Tryz.underlying57,MapKept.run_getObj_map h,MapKept.run_checkKey Tryz.underlying9 isKA,MapKept.run_findKey Tryz.underlying9 (findQ bc),Result.andThen]
theorem storeq_new(w:World)(b bc:Nat)(h:w.heap[b]? = some (.map #[] 0)) :
 (Instr.mapUpdate 57 (.map (some b)) (.string ⟨#[97]⟩) (.pointer (some ⟨bc,0,none⟩))).run Tryz.prog w = .ok () {w with heap:=w.heap.setIfInBounds b (qBlk bc)}:=by
 have hf:Instr.findNow .string (.string ⟨#[97]⟩) ([]:List MapEntry) 0=some none:=rfl;simp[Instr.mapUpdate,run_underlying Tryz.underlying57,MapKept.run_getObj_map h,MapKept.run_checkKey Tryz.underlying9 isKA,MapKept.run_findKey Tryz.underlying9 hf,MapKept.run_setObj_map _ h,Result.andThen,qBlk,qEs]
theorem clone_any(s:ByteArray)(w:World)(hl:s.size<=400) :
 Calls Tryz.prog 23 #[.string s] w fun e w'=>e = .returned (.string s)/\Below w.heap.size w w':=by
 go_enter Tryz.func23,Tryz.ntmps23;go_wp2_with (go_at_call 49;refine (Tryz.stringslite_Clone _ _ (by omega)).mono ?_;rintro e w'⟨rfl,hb⟩)
 go_ret;exact⟨rfl,hb⟩
def sBlk(M Q:Option Nat)(r:Int):Obj:=.cells #[.map M,.int .i64 r,.map Q,.map none,.slice none 0 0,.slice none 0 0,.int .u64 0] 66
def cBlk(c:Int):Obj:=.cells #[.int .i64 c] 162
def setO(w:World)(b:Nat)(o:Obj):World:={w with heap:=w.heap.setIfInBounds b o}
theorem setO_ne(w:World)(b k:Nat)(o:Obj)(h:k≠b):(setO w b o).heap[k]? = w.heap[k]?:=by
 simp[setO,Ne.symm h]
theorem setO_eq{w:World}{b:Nat}{o':Obj}(o:Obj)(h:w.heap[b]? = some o'):(setO w b o).heap[b]? = some o:=by
 have:=aB h
 simp[setO,this]
structure PC (hp:Array Obj) (bs bm bq bc:Nat) (r:Int) (o:Obj):Prop where
 hs:hp[bs]? = some (sBlk (some bm) (some bq) r)
 hm:hp[bm]? = some o
 hq:hp[bq]? = some (qBlk bc)
 hc:∃c,hp[bc]? = some (cBlk c)
theorem PC.below{w w':World}{bs bm bq bc:Nat}{r:Int}{o:Obj}(hb:Below w.heap.size w w')(h:PC w.heap bs bm bq bc r o):PC w'.heap bs bm bq bc r o:=⟨below_heap hb h.hs,below_heap hb h.hm,below_heap hb h.hq,h.hc.imp fun _ e=>below_heap hb e⟩
theorem PC.c0{w:World}{bs bm bq bc:Nat}{r:Int}{o:Obj}(h:PC w.heap bs bm bq bc r o):w.cell? ⟨bs,0,none⟩=some (.map (some bm)):=aA h.hs
theorem PC.c1{w:World}{bs bm bq bc:Nat}{r:Int}{o:Obj}(h:PC w.heap bs bm bq bc r o):w.cell? ⟨bs,1,none⟩=some (.int .i64 r):=aA h.hs
theorem Fr.step{S:List Nat}{a w w':World}(h:Hid (Fr S a w))(hb:Below w.heap.size w w'):Hid (Fr S a w'):=h.out.trans (Fr.of_below hb)
theorem Fr.setO{S:List Nat}{a w:World}(h:Fr S a w)(b:Nat)(hb:b∈S\/a.heap.size<=b)(o:Obj):Fr S a (setO w b o):=
 ⟨h.os,h.tape,h.output,by have:=h.size;simpa[Ses.setO] using this,fun k hk hn=>by
  have hne:k≠b:=by
   rintro rfl;rcases hb with hb|hb
   . exact hn hb
   . omega
  rw[setO_ne _ _ _ _ hne];exact h.block k hk hn⟩
theorem lV(bs bq bc:Nat)(w:World)(c2:w.cell? ⟨bs,2,none⟩=some (.map (some bq)))(hq:w.heap[bq]? = some (qBlk bc)) :
 Calls Tryz.prog 84 #[.pointer (some ⟨bs,1,none⟩),.string ⟨#[97]⟩] w fun e w'=>e = .returned (.pointer (some ⟨bc,0,none⟩))/\w'=w:=by
 have hl:=lookq_one w bq bc hq;clear hq;go_enter Tryz.func84,Tryz.ntmps84;go_wp2;go_ret;exact⟨rfl,rfl⟩
structure Chn (w w':World) (bs bq bc:Nat) (M:Option Nat) (r c:Int):Prop where
 s:w'.heap[bs]? = some (sBlk M (some bq) r)
 q:w'.heap[bq]? = some (qBlk bc)
 c:w'.heap[bc]? = some (cBlk c)
 lq:w.heap.size<=bq
 lc:w.heap.size<=bc
 ne:bq≠bc
 f:Fr [bs] w w'
structure Pre (w W:World) (bs:Nat) (M:Option Nat) (r:Int):Prop where
 s:W.heap[bs]? = some (sBlk M (some (w.heap.size+1)) r)
 q:W.heap[w.heap.size+1]? = some (.map #[] 0)
 c:W.heap[w.heap.size]? = some (cBlk 0)
 f:Fr [bs] w W
 lt:bs<w.heap.size
theorem Pre.below{w W W':World}{bs:Nat}{M:Option Nat}{r:Int}(h:Pre w W bs M r)(hb:Below W.heap.size W W'):Pre w W' bs M r:=
 ⟨below_heap hb h.s,below_heap hb h.q,below_heap hb h.c,h.f.trans (Fr.of_below hb),h.lt⟩
theorem Pre.drew{w W:World}{bs:Nat}{M:Option Nat}{r:Int}(h:Pre w W bs M r):Pre w W.drew bs M r:=⟨h.s,h.q,h.c,h.f.drew,h.lt⟩
theorem qC{w:World}{bs:Nat}{M:Option Nat}{r:Int}(h:w.heap[bs]? = some (sBlk M none r)) :
 Pre w (((w.setCell ⟨bs,2,none⟩ (.map (some (w.heap.size+1)))).alloc (cBlk 0)).alloc (.map #[] 0)) bs M r:=by
 have hb:=aB h;have s0:=aH (i:=2) h (.map (some (w.heap.size+1)));have hz0:(w.setCell ⟨bs,2,none⟩ (.map (some (w.heap.size+1)))).heap.size=w.heap.size:=by simp
 have hA:=MapKept.heap_alloc (w.setCell ⟨bs,2,none⟩ (.map (some (w.heap.size+1)))) (cBlk 0);have hA2:=MapKept.heap_alloc ((w.setCell ⟨bs,2,none⟩ (.map (some (w.heap.size+1)))).alloc (cBlk 0)) (.map #[] 0);have hz:((w.setCell ⟨bs,2,none⟩ (.map (some (w.heap.size+1)))).alloc (cBlk 0)).heap.size=w.heap.size+1:=by simp
 rw[hz] at hA2;rw[hz0] at hA;exact⟨(hA2.2 bs (by omega)).trans ((hA.2 bs hb).trans s0),hA2.1,(hA2.2 _ (by omega)).trans hA.1,((((Fr.refl _ _).setCell _ (.inl (by simp)) _).alloc _).alloc _),hb⟩
theorem Pre.store{w W:World}{bs:Nat}{M:Option Nat}{r:Int}(h:Pre w W bs M r):Chn w (setO W (w.heap.size+1) (qBlk w.heap.size)) bs (w.heap.size+1) w.heap.size M r 0:=by
 have:=h.lt
 exact⟨(setO_ne _ _ _ _ (by omega)).trans h.s,setO_eq _ h.q,(setO_ne _ _ _ _ (by omega)).trans h.c,by omega,by omega,by omega,h.f.setO _ (.inr (by omega)) _⟩
theorem Chn.below{w w1 w2:World}{bs bq bc:Nat}{M:Option Nat}{r c:Int}(h:Chn w w1 bs bq bc M r c)(hb:Below w1.heap.size w1 w2):Chn w w2 bs bq bc M r c:=
 ⟨below_heap hb h.s,below_heap hb h.q,below_heap hb h.c,h.lq,h.lc,h.ne,h.f.trans (Fr.of_below hb)⟩
theorem oT(bs:Nat)(M:Option Nat)(r:Int)(w:World)(h:w.heap[bs]? = some (sBlk M none r)) :
 Calls Tryz.prog 84 #[.pointer (some ⟨bs,1,none⟩),.string ⟨#[97]⟩] w fun e w'=>e = .returned (.pointer (some ⟨w.heap.size,0,none⟩))/\Chn w w' bs (w.heap.size+1) w.heap.size M r 0:=by
 have c2:w.cell? ⟨bs,2,none⟩=some (.map none):=aA h;have hb:=aB h;have hA:=MapKept.heap_alloc w (cBlk 0);have hA2:=MapKept.heap_alloc (w.alloc (cBlk 0)) (.map #[] 0);have d2:∀o,(w.alloc o).cell? ⟨bs,2,none⟩=some (.map none):=fun o=>aA ((Below.heap_alloc w o bs hb).trans h);have e2:∀o p,((w.alloc o).alloc p).cell? ⟨bs,2,none⟩=some (.map none):=fun o p=>aA ((Below.heap_alloc (w.alloc o) p bs (by simp;omega)).trans ((Below.heap_alloc w o bs hb).trans h));have g2:∀o p,((w.alloc o).alloc p).frozen? ⟨bs,2,none⟩=false:=fun o p=>aE ((Below.heap_alloc (w.alloc o) p bs (by simp;omega)).trans ((Below.heap_alloc w o bs hb).trans h));have hmn:∀W:World,(binOp .eql 57 (.map none) (.map none)).run Tryz.prog W = .ok (.bool true) W:=fun W=>run_eql_map_nil W 57 9 163 none Tryz.underlying57;have hmk:∀W:World,(Instr.makeMap 57 none).run Tryz.prog W = .ok (.map (some W.heap.size)) (W.alloc (.map #[] 0)):=fun W=>@run_makeMap Tryz.prog 57 W;have hl:=lookq_nil w;have HP:Hid (Pre w (((w.setCell ⟨bs,2,none⟩ (.map (some (w.heap.size+1)))).alloc (cBlk 0)).alloc (.map #[] 0)) bs M r):=qC h;clear h hA hA2;go_enter Tryz.func84,Tryz.ntmps84;go_wp2;have HP2:Hid (Pre w (((w.setCell ⟨bs,2,none⟩ (.map (some (w.heap.size+1)))).alloc (.cells #[.int .i64 0] 162)).alloc (.map #[] 0)) bs M r):=HP;generalize ((w.setCell ⟨bs,2,none⟩ (.map (some (w.heap.size+1)))).alloc (.cells #[.int .i64 0] 162)).alloc (.map #[] 0)=W at HP2 ⊢;have d2:W.cell? ⟨bs,2,none⟩=some (.map (some (w.heap.size+1))):=aA HP2.out.s;have hst:∀W:World,W.heap[w.heap.size+1]? = some (.map #[] 0)->(Instr.mapUpdate 57 (.map (some (w.heap.size+1))) (.string ⟨#[97]⟩) (.pointer (some ⟨w.heap.size,0,none⟩))).run Tryz.prog W = .ok () (setO W (w.heap.size+1) (qBlk w.heap.size)):=fun W hW=>storeq_new W (w.heap.size+1) w.heap.size hW;clear HP c2 e2 g2 hmn hmk hl hb;go_region_with (go_at_call 23;go_must (refine (clone_any _ _ ?hh).mono ?_;(case hh=>decide);rintro e w'⟨rfl,hb⟩;have HP3:Hid (Pre w w' bs M r):=(by first|exact HP2.out.below hb|exact HP2.out.drew.below hb);have d2':w'.cell? ⟨bs,2,none⟩=some (.map (some (w.heap.size+1))):=aA HP3.out.s;have q2':=HP3.out.q))
 all_goals go_wp2
 all_goals go_ret
 all_goals exact⟨rfl,HP3.out.store⟩
theorem Chn.cell{w w1:World}{bs bq bc:Nat}{M:Option Nat}{r c:Int}(h:Chn w w1 bs bq bc M r c)(hb:bs<w.heap.size):Chn w (w1.setCell ⟨bc,0,none⟩ (.int .i64 r)) bs bq bc M r r:=by
 have:=h.lc
 exact⟨(aD (by omega) _).trans h.s,(aD h.ne _).trans h.q,aH (i:=0) h.c _,h.lq,h.lc,h.ne,h.f.setCell _ (.inr h.lc) _⟩
theorem Chn.drew{w w1:World}{bs bq bc:Nat}{M:Option Nat}{r c:Int}(h:Chn w w1 bs bq bc M r c):Chn w w1.drew bs bq bc M r c:=
 ⟨h.s,h.q,h.c,h.lq,h.lc,h.ne,h.f.drew⟩
structure Dis (bs bm bq bc:Nat):Prop where
 ms:bm≠bs
 qs:bq≠bs
 cs:bc≠bs
 mq:bm≠bq
 mc:bm≠bc
 qc:bq≠bc
theorem PC.setO{w:World}{bs bm bq bc:Nat}{r:Int}{o:Obj}(hd:Dis bs bm bq bc)(h:PC w.heap bs bm bq bc r o)(o':Obj):PC (setO w bm o').heap bs bm bq bc r o':=
 ⟨(setO_ne _ _ _ _ hd.ms.symm).trans h.hs,setO_eq _ h.hm,(setO_ne _ _ _ _ hd.mq.symm).trans h.hq,h.hc.imp fun _ e=>(setO_ne _ _ _ _ hd.mc.symm).trans e⟩
structure PreF (w W:World) (bs:Nat) (r:Int):Prop where
 s:W.heap[bs]? = some (sBlk (some w.heap.size) none r)
 m:W.heap[w.heap.size]? = some (.map #[] 0)
 f:Fr [bs] w W
 lt:bs<w.heap.size
 sz:w.heap.size<W.heap.size
theorem PreF.below{w W W':World}{bs:Nat}{r:Int}(h:PreF w W bs r)(hb:Below W.heap.size W W'):PreF w W' bs r:=
 ⟨below_heap hb h.s,below_heap hb h.m,h.f.trans (Fr.of_below hb),h.lt,by have:=h.sz;have:=hb.size;omega⟩
theorem PreF.drew{w W:World}{bs:Nat}{r:Int}(h:PreF w W bs r):PreF w W.drew bs r:=⟨h.s,h.m,h.f.drew,h.lt,h.sz⟩
theorem PreF.step{w W W':World}{bs:Nat}{r:Int}(h:Hid (PreF w W bs r))(hb:Below W.heap.size W W'):Hid (PreF w W' bs r):=h.out.below hb
end Go.Proofs.YthibodlojlkppaaGreatDoor.Ses
namespace Go.Proofs.YthibodlojlkppaaGreatDoor
open Go.RowKit
theorem yW(p:Nat)(w:World):(method 414 165 (.pointer (some ⟨p,0, none⟩)) "almanac/slots.common").run Tryz.prog w = .ok (219,.pointer (some ⟨p,0,none⟩)) w:=by kernel_rfl
theorem AH(p:Nat)(w:World):(nilAhead 414 165 (.pointer (some ⟨p,0, none⟩)) "almanac/slots.common").run Tryz.prog w = .ok (some false) w:=by kernel_rfl
theorem AJ(p:Nat)(w:World):(method 414 165 (.pointer (some ⟨p,0, none⟩)) "almanac/slots.enter").run Tryz.prog w = .ok (221,.pointer (some ⟨p,0,none⟩)) w:=by kernel_rfl
theorem Cg(p:Nat)(w:World):(nilAhead 414 165 (.pointer (some ⟨p,0, none⟩)) "almanac/slots.enter").run Tryz.prog w = .ok (some false) w:=by kernel_rfl
theorem AK(p:Nat)(w:World):(method 414 165 (.pointer (some ⟨p,0, none⟩)) "almanac/slots.leave").run Tryz.prog w = .ok (224,.pointer (some ⟨p,0,none⟩)) w:=by kernel_rfl
theorem Ch(p:Nat)(w:World):(nilAhead 414 165 (.pointer (some ⟨p,0, none⟩)) "almanac/slots.leave").run Tryz.prog w = .ok (some false) w:=by kernel_rfl
theorem tS(p:Nat)(w:World):(method 414 165 (.pointer (some ⟨p,0, none⟩)) "almanac/slots.isLooped").run Tryz.prog w = .ok (223,.pointer (some ⟨p,0,none⟩)) w:=by kernel_rfl
theorem wL(p:Nat)(w:World):(nilAhead 414 165 (.pointer (some ⟨p,0, none⟩)) "almanac/slots.isLooped").run Tryz.prog w = .ok (some false) w:=by kernel_rfl
theorem rZ(p:Nat)(w:World):(method 414 165 (.pointer (some ⟨p,0, none⟩)) "almanac/slots.isDropped").run Tryz.prog w = .ok (222,.pointer (some ⟨p,0,none⟩)) w:=by kernel_rfl
theorem tT(p:Nat)(w:World):(nilAhead 414 165 (.pointer (some ⟨p,0, none⟩)) "almanac/slots.isDropped").run Tryz.prog w = .ok (some false) w:=by kernel_rfl
theorem yX(p:Nat)(w:World):(method 414 165 (.pointer (some ⟨p,0, none⟩)) "almanac/slots.verify").run Tryz.prog w = .ok (226,.pointer (some ⟨p,0,none⟩)) w:=by kernel_rfl
theorem AL(p:Nat)(w:World):(nilAhead 414 165 (.pointer (some ⟨p,0, none⟩)) "almanac/slots.verify").run Tryz.prog w = .ok (some false) w:=by kernel_rfl
theorem wM(p:Nat)(w:World):(method 414 165 (.pointer (some ⟨p,0, none⟩)) "almanac/slots.workOut").run Tryz.prog w = .ok (227,.pointer (some ⟨p,0,none⟩)) w:=by kernel_rfl
theorem yY(p:Nat)(w:World):(nilAhead 414 165 (.pointer (some ⟨p,0, none⟩)) "almanac/slots.workOut").run Tryz.prog w = .ok (some false) w:=by kernel_rfl
theorem yZ(p:Nat)(w:World):(method 414 178 (.pointer (some ⟨p,0, none⟩)) "almanac/slots.common").run Tryz.prog w = .ok (219,.pointer (some ⟨p,0,none⟩)) w:=by kernel_rfl
theorem AM(p:Nat)(w:World):(nilAhead 414 178 (.pointer (some ⟨p,0, none⟩)) "almanac/slots.common").run Tryz.prog w = .ok (some false) w:=by kernel_rfl
theorem AN(p:Nat)(w:World):(method 414 178 (.pointer (some ⟨p,0, none⟩)) "almanac/slots.enter").run Tryz.prog w = .ok (221,.pointer (some ⟨p,0,none⟩)) w:=by kernel_rfl
theorem Ci(p:Nat)(w:World):(nilAhead 414 178 (.pointer (some ⟨p,0, none⟩)) "almanac/slots.enter").run Tryz.prog w = .ok (some false) w:=by kernel_rfl
theorem AO(p:Nat)(w:World):(method 414 178 (.pointer (some ⟨p,0, none⟩)) "almanac/slots.leave").run Tryz.prog w = .ok (224,.pointer (some ⟨p,0,none⟩)) w:=by kernel_rfl
theorem Cj(p:Nat)(w:World):(nilAhead 414 178 (.pointer (some ⟨p,0, none⟩)) "almanac/slots.leave").run Tryz.prog w = .ok (some false) w:=by kernel_rfl
theorem tU(p:Nat)(w:World):(method 414 178 (.pointer (some ⟨p,0, none⟩)) "almanac/slots.isLooped").run Tryz.prog w = .ok (223,.pointer (some ⟨p,0,none⟩)) w:=by kernel_rfl
theorem wN(p:Nat)(w:World):(nilAhead 414 178 (.pointer (some ⟨p,0, none⟩)) "almanac/slots.isLooped").run Tryz.prog w = .ok (some false) w:=by kernel_rfl
theorem r7(p:Nat)(w:World):(method 414 178 (.pointer (some ⟨p,0, none⟩)) "almanac/slots.isDropped").run Tryz.prog w = .ok (222,.pointer (some ⟨p,0,none⟩)) w:=by kernel_rfl
theorem tV(p:Nat)(w:World):(nilAhead 414 178 (.pointer (some ⟨p,0, none⟩)) "almanac/slots.isDropped").run Tryz.prog w = .ok (some false) w:=by kernel_rfl
theorem y5(p:Nat)(w:World):(method 414 178 (.pointer (some ⟨p,0, none⟩)) "almanac/slots.verify").run Tryz.prog w = .ok (226,.pointer (some ⟨p,0,none⟩)) w:=by kernel_rfl
theorem AP(p:Nat)(w:World):(nilAhead 414 178 (.pointer (some ⟨p,0, none⟩)) "almanac/slots.verify").run Tryz.prog w = .ok (some false) w:=by kernel_rfl
theorem wO(p:Nat)(w:World):(method 414 178 (.pointer (some ⟨p,0, none⟩)) "almanac/slots.workOut").run Tryz.prog w = .ok (233,.pointer (some ⟨p,0,none⟩)) w:=by kernel_rfl
theorem y6(p:Nat)(w:World):(nilAhead 414 178 (.pointer (some ⟨p,0, none⟩)) "almanac/slots.workOut").run Tryz.prog w = .ok (some false) w:=by kernel_rfl
theorem y9(p:Nat)(w:World):(method 414 184 (.pointer (some ⟨p,0, none⟩)) "almanac/slots.common").run Tryz.prog w = .ok (219,.pointer (some ⟨p,0,none⟩)) w:=by kernel_rfl
theorem AQ(p:Nat)(w:World):(nilAhead 414 184 (.pointer (some ⟨p,0, none⟩)) "almanac/slots.common").run Tryz.prog w = .ok (some false) w:=by kernel_rfl
theorem AR(p:Nat)(w:World):(method 414 184 (.pointer (some ⟨p,0, none⟩)) "almanac/slots.enter").run Tryz.prog w = .ok (221,.pointer (some ⟨p,0,none⟩)) w:=by kernel_rfl
theorem Ck(p:Nat)(w:World):(nilAhead 414 184 (.pointer (some ⟨p,0, none⟩)) "almanac/slots.enter").run Tryz.prog w = .ok (some false) w:=by kernel_rfl
theorem AU(p:Nat)(w:World):(method 414 184 (.pointer (some ⟨p,0, none⟩)) "almanac/slots.leave").run Tryz.prog w = .ok (224,.pointer (some ⟨p,0,none⟩)) w:=by kernel_rfl
theorem Cl(p:Nat)(w:World):(nilAhead 414 184 (.pointer (some ⟨p,0, none⟩)) "almanac/slots.leave").run Tryz.prog w = .ok (some false) w:=by kernel_rfl
theorem tW(p:Nat)(w:World):(method 414 184 (.pointer (some ⟨p,0, none⟩)) "almanac/slots.isLooped").run Tryz.prog w = .ok (223,.pointer (some ⟨p,0,none⟩)) w:=by kernel_rfl
theorem wP(p:Nat)(w:World):(nilAhead 414 184 (.pointer (some ⟨p,0, none⟩)) "almanac/slots.isLooped").run Tryz.prog w = .ok (some false) w:=by kernel_rfl
theorem r8(p:Nat)(w:World):(method 414 184 (.pointer (some ⟨p,0, none⟩)) "almanac/slots.isDropped").run Tryz.prog w = .ok (222,.pointer (some ⟨p,0,none⟩)) w:=by kernel_rfl
theorem tX(p:Nat)(w:World):(nilAhead 414 184 (.pointer (some ⟨p,0, none⟩)) "almanac/slots.isDropped").run Tryz.prog w = .ok (some false) w:=by kernel_rfl
theorem zA(p:Nat)(w:World):(method 414 184 (.pointer (some ⟨p,0, none⟩)) "almanac/slots.verify").run Tryz.prog w = .ok (226,.pointer (some ⟨p,0,none⟩)) w:=by kernel_rfl
theorem AV(p:Nat)(w:World):(nilAhead 414 184 (.pointer (some ⟨p,0, none⟩)) "almanac/slots.verify").run Tryz.prog w = .ok (some false) w:=by kernel_rfl
theorem wQ(p:Nat)(w:World):(method 414 184 (.pointer (some ⟨p,0, none⟩)) "almanac/slots.workOut").run Tryz.prog w = .ok (238,.pointer (some ⟨p,0,none⟩)) w:=by kernel_rfl
theorem zB(p:Nat)(w:World):(nilAhead 414 184 (.pointer (some ⟨p,0, none⟩)) "almanac/slots.workOut").run Tryz.prog w = .ok (some false) w:=by kernel_rfl
theorem zC(p:Nat)(w:World):(method 414 189 (.pointer (some ⟨p,0, none⟩)) "almanac/slots.common").run Tryz.prog w = .ok (219,.pointer (some ⟨p,0,none⟩)) w:=by kernel_rfl
theorem AW(p:Nat)(w:World):(nilAhead 414 189 (.pointer (some ⟨p,0, none⟩)) "almanac/slots.common").run Tryz.prog w = .ok (some false) w:=by kernel_rfl
theorem AX(p:Nat)(w:World):(method 414 189 (.pointer (some ⟨p,0, none⟩)) "almanac/slots.enter").run Tryz.prog w = .ok (221,.pointer (some ⟨p,0,none⟩)) w:=by kernel_rfl
theorem Cm(p:Nat)(w:World):(nilAhead 414 189 (.pointer (some ⟨p,0, none⟩)) "almanac/slots.enter").run Tryz.prog w = .ok (some false) w:=by kernel_rfl
theorem AY(p:Nat)(w:World):(method 414 189 (.pointer (some ⟨p,0, none⟩)) "almanac/slots.leave").run Tryz.prog w = .ok (224,.pointer (some ⟨p,0,none⟩)) w:=by kernel_rfl
theorem Cn(p:Nat)(w:World):(nilAhead 414 189 (.pointer (some ⟨p,0, none⟩)) "almanac/slots.leave").run Tryz.prog w = .ok (some false) w:=by kernel_rfl
theorem tY(p:Nat)(w:World):(method 414 189 (.pointer (some ⟨p,0, none⟩)) "almanac/slots.isLooped").run Tryz.prog w = .ok (223,.pointer (some ⟨p,0,none⟩)) w:=by kernel_rfl
theorem wR(p:Nat)(w:World):(nilAhead 414 189 (.pointer (some ⟨p,0, none⟩)) "almanac/slots.isLooped").run Tryz.prog w = .ok (some false) w:=by kernel_rfl
theorem r9(p:Nat)(w:World):(method 414 189 (.pointer (some ⟨p,0, none⟩)) "almanac/slots.isDropped").run Tryz.prog w = .ok (222,.pointer (some ⟨p,0,none⟩)) w:=by kernel_rfl
theorem tZ(p:Nat)(w:World):(nilAhead 414 189 (.pointer (some ⟨p,0, none⟩)) "almanac/slots.isDropped").run Tryz.prog w = .ok (some false) w:=by kernel_rfl
theorem zD(p:Nat)(w:World):(method 414 189 (.pointer (some ⟨p,0, none⟩)) "almanac/slots.verify").run Tryz.prog w = .ok (226,.pointer (some ⟨p,0,none⟩)) w:=by kernel_rfl
theorem AZ(p:Nat)(w:World):(nilAhead 414 189 (.pointer (some ⟨p,0, none⟩)) "almanac/slots.verify").run Tryz.prog w = .ok (some false) w:=by kernel_rfl
theorem wS(p:Nat)(w:World):(method 414 189 (.pointer (some ⟨p,0, none⟩)) "almanac/slots.workOut").run Tryz.prog w = .ok (243,.pointer (some ⟨p,0,none⟩)) w:=by kernel_rfl
theorem zE(p:Nat)(w:World):(nilAhead 414 189 (.pointer (some ⟨p,0, none⟩)) "almanac/slots.workOut").run Tryz.prog w = .ok (some false) w:=by kernel_rfl
theorem eQ(p:Nat)(w:World):Calls Tryz.prog 219 #[.pointer (some ⟨p,0,none⟩)] w fun e w'=>e = .returned (.pointer (some ⟨p,0,none⟩))/\w'=w:=by
 go_enter Tryz.func219,Tryz.ntmps219;go_wp2;go_ret;exact⟨rfl,rfl⟩
theorem iH(p:Nat)(pl:Int)(w:World)(h:w.cell? ⟨p,10,none⟩=some (.int .i64 pl)):Calls Tryz.prog 222 #[.pointer (some ⟨p,0,none⟩)] w fun e w'=>e = .returned (.bool (pl == -1))/\w'=w:=by
 go_enter Tryz.func222,Tryz.ntmps222;go_wp2;go_ret;exact⟨rfl,rfl⟩
theorem uA(p:Nat)(b:Bool)(w:World)(h:w.cell? ⟨p,5,none⟩=some (.bool b)):Calls Tryz.prog 223 #[.pointer (some ⟨p,0,none⟩)] w fun e w'=>e = .returned (.bool b)/\w'=w:=by
 go_enter Tryz.func223,Tryz.ntmps223;go_wp2;go_ret;exact⟨rfl,rfl⟩
theorem p9(p:Nat)(w:World)(h:w.cell? ⟨p,4,none⟩=some (.bool false))(hf:w.frozen? ⟨p,4,none⟩=false):Calls Tryz.prog 221 #[.pointer (some ⟨p,0,none⟩)] w fun e w'=>e = .returned (.tuple #[])/\w'=w.setCell ⟨p,4,none⟩ (.bool true):=by
 go_enter Tryz.func221,Tryz.ntmps221;go_wp2;go_end0
 exact⟨rfl,rfl⟩
theorem q9(p bs:Nat)(rv:Int)(w:World)(h0:w.cell? ⟨p,0,none⟩=some (.pointer (some ⟨bs,1,none⟩)))(h7:w.cell? ⟨p,7,none⟩=some (.int .i64 rv))(hr:w.cell? ⟨bs,1,none⟩=some (.int .i64 rv)):Calls Tryz.prog 226 #[.pointer (some ⟨p,0,none⟩)] w fun e w'=>e = .returned (.bool true)/\w'=w:=by
 go_enter Tryz.func226,Tryz.ntmps226;go_wp2;go_ret;exact⟨rfl,rfl⟩
theorem Co(p bs:Nat)(rv:Int)(hr0:0<=rv)(w:World)(h0:w.cell? ⟨p,0,none⟩=some (.pointer (some ⟨bs,1,none⟩)))(h7:w.cell? ⟨p,7,none⟩=some (.int .i64 (-1)))(hr:w.cell? ⟨bs,1,none⟩=some (.int .i64 rv)):Calls Tryz.prog 226 #[.pointer (some ⟨p,0,none⟩)] w fun e w'=>e = .returned (.bool false)/\w'=w:=by
 have hne:((-1:Int)==rv)=false:=by rw[beq_eq_false_iff_ne];omega
 go_enter Tryz.func226,Tryz.ntmps226;go_wp2;go_ret;exact⟨rfl,rfl⟩
theorem dB(p:Nat)(u:FrameMode)(w:World)(b4 b5:Bool)(h4:w.cell? ⟨p,4,none⟩=some (.bool b4))(h5:w.cell? ⟨p,5,none⟩=some (.bool b5))(f4:w.frozen? ⟨p,4,none⟩=false)(f5:w.frozen? ⟨p,5,none⟩=false) :
 CallsD Tryz.prog 224 #[.pointer (some ⟨p,0,none⟩)] u w fun e u' w'=>u'=u/\(e = .returned (.tuple #[])/\w'=(w.setCell ⟨p,4,none⟩ (.bool false)).setCell ⟨p,5,none⟩ (.bool false)):=by
 go_enter_d Tryz.func224,Tryz.ntmps224
 go_wp2;go_end0
 exact⟨rfl,rfl⟩
structure MT (T:TypeId) (F:FuncId):Prop where
 common:∀(p:Nat) (w:World),(method 414 T (.pointer (some ⟨p,0, none⟩)) "almanac/slots.common").run Tryz.prog w = .ok (219,.pointer (some ⟨p,0,none⟩)) w
 ncommon:∀(p:Nat) (w:World),(nilAhead 414 T (.pointer (some ⟨p,0, none⟩)) "almanac/slots.common").run Tryz.prog w = .ok (some false) w
 enter:∀(p:Nat) (w:World),(method 414 T (.pointer (some ⟨p,0, none⟩)) "almanac/slots.enter").run Tryz.prog w = .ok (221,.pointer (some ⟨p,0,none⟩)) w
 nenter:∀(p:Nat) (w:World),(nilAhead 414 T (.pointer (some ⟨p,0, none⟩)) "almanac/slots.enter").run Tryz.prog w = .ok (some false) w
 leave:∀(p:Nat) (w:World),(method 414 T (.pointer (some ⟨p,0, none⟩)) "almanac/slots.leave").run Tryz.prog w = .ok (224,.pointer (some ⟨p,0,none⟩)) w
 nleave:∀(p:Nat) (w:World),(nilAhead 414 T (.pointer (some ⟨p,0, none⟩)) "almanac/slots.leave").run Tryz.prog w = .ok (some false) w
 isLooped:∀(p:Nat) (w:World),(method 414 T (.pointer (some ⟨p,0, none⟩)) "almanac/slots.isLooped").run Tryz.prog w = .ok (223,.pointer (some ⟨p,0,none⟩)) w
 nisLooped:∀(p:Nat) (w:World),(nilAhead 414 T (.pointer (some ⟨p,0, none⟩)) "almanac/slots.isLooped").run Tryz.prog w = .ok (some false) w
 isDropped:∀(p:Nat) (w:World),(method 414 T (.pointer (some ⟨p,0, none⟩)) "almanac/slots.isDropped").run Tryz.prog w = .ok (222,.pointer (some ⟨p,0,none⟩)) w
 nisDropped:∀(p:Nat) (w:World),(nilAhead 414 T (.pointer (some ⟨p,0, none⟩)) "almanac/slots.isDropped").run Tryz.prog w = .ok (some false) w
 verify:∀(p:Nat) (w:World),(method 414 T (.pointer (some ⟨p,0, none⟩)) "almanac/slots.verify").run Tryz.prog w = .ok (226,.pointer (some ⟨p,0,none⟩)) w
 nverify:∀(p:Nat) (w:World),(nilAhead 414 T (.pointer (some ⟨p,0, none⟩)) "almanac/slots.verify").run Tryz.prog w = .ok (some false) w
 workOut:∀(p:Nat) (w:World),(method 414 T (.pointer (some ⟨p,0, none⟩)) "almanac/slots.workOut").run Tryz.prog w = .ok (F,.pointer (some ⟨p,0,none⟩)) w
 nworkOut:∀(p:Nat) (w:World),(nilAhead 414 T (.pointer (some ⟨p,0, none⟩)) "almanac/slots.workOut").run Tryz.prog w = .ok (some false) w
 ent:∀(args:Array Value) (w:World),(callFunc F args).run Tryz.prog w = .ok (.enter F args) w
 isSlot:∀(v:Value) (xT:TypeId) (w:World),(Instr.typeAssert (.iface T v) xT 94 false).run Tryz.prog w = .ok (.iface T v) w
theorem OQ:MT 165 227:=
 ⟨yW,AH,AJ,Cg,AK,Ch,tS,wL,rZ,tT,yX,AL,wM,yY,fun args w=>by kernel_rfl,fun v xT w=>by kernel_rfl⟩
theorem OR:MT 178 233:=
 ⟨yZ,AM,AN,Ci,AO,Cj,tU,wN,r7,tV,y5,AP,wO,y6,fun args w=>by kernel_rfl,fun v xT w=>by kernel_rfl⟩
theorem OS:MT 184 238:=
 ⟨y9,AQ,AR,Ck,AU,Cl,tW,wP,r8,tX,zA,AV,wQ,zB,fun args w=>by kernel_rfl,fun v xT w=>by kernel_rfl⟩
theorem OT:MT 189 243:=
 ⟨zC,AW,AX,Cm,AY,Cn,tY,wR,r9,tZ,zD,AZ,wS,zE,fun args w=>by kernel_rfl,fun v xT w=>by kernel_rfl⟩
end Go.Proofs.YthibodlojlkppaaGreatDoor
namespace Go.Proofs.YthibodlojlkppaaGreatDoor
open Go.RowKit
variable [DecidableEq K] [LawfulBEq Lk]
def O8(T:TypeId):Prop:=∃F,MT T F
theorem mS(k:K):O8 (TI k):=by
 unfold TI;repeat' split
 . exact⟨_,OR⟩
 . exact⟨_,OS⟩
 . exact⟨_,OT⟩
 . exact⟨_,OQ⟩
structure o9 (bs kb c:Nat) (L:aM) (u:K->Nat) (arr:List K) (w:World):Prop where
 v:w.cell? ⟨bs,5,none⟩=some (.slice (some ⟨kb,0,none⟩) arr.length c)
 own:w.ownsRow 0 94 1 (.slice (some ⟨kb,0,none⟩) arr.length c) arr.length (arr.map (aY L))
 pl:∀(i:Nat) (k:K),arr[i]? = some k->∃T xs,SB w (L.bk k) T xs/\xs[10]? = some (.int .i64 i)/\xs[11]? = some (.int .u64 (u k))
 nd:arr.Nodup
 inj:∀j∈arr,∀k∈arr,L.bk j=L.bk k->j=k
 ne:∀k∈arr,L.bk k≠kb/\L.bk k≠bs
 kbs:kb≠bs
 len:arr.length<=cD
theorem o9.cell{bs kb c:Nat}{L:aM}{u:K->Nat}{arr:List K}{w:World}(h:o9 bs kb c L u arr w){i:Nat}{k:K}(hi:arr[i]? = some k):w.cell? ⟨kb,i,none⟩=some (.iface (TI k) (.pointer (some ⟨L.bk k,0,none⟩))):=by
 have hil:=(List.getElem?_eq_some_iff.1 hi).1;rw[h.own.cellAt i (by omega),List.getElem?_map,hi];rfl
theorem o9.fr{bs kb c:Nat}{L:aM}{u:K->Nat}{arr:List K}{w:World}(h:o9 bs kb c L u arr w)(i:Nat):w.frozen? ⟨kb,i,none⟩=false:=h.own.frozenAt i
theorem o9.below{bs kb c:Nat}{L:aM}{u:K->Nat}{arr:List K}{w w':World}(h:o9 bs kb c L u arr w)(hb:Below w.heap.size w w'):o9 bs kb c L u arr w':=by
 refine⟨aK hb h.v,?_,fun i k hi=>?_,h.nd,h.inj,h.ne,h.kbs,h.len⟩
 . obtain⟨hl,h1|⟨g,cap,cur,h1,h2,h3,h4⟩⟩:=h.own
   . exact⟨hl,.inl h1⟩
   . exact⟨hl,.inr ⟨g,cap,cur,h1,h2,below_heap hb (aB h3) h3,h4⟩⟩
 . obtain⟨T,xs,a,b⟩:=h.pl i k hi
   exact⟨T,xs,below_heap hb (aB a) a,b⟩
theorem SB.cell{w:World}{p:Nat}{TT:TypeId}{xs:List Value}(h:SB w p TT xs){i:Nat}{v:Value}(hi:xs[i]? = some v):w.cell? ⟨p,i,none⟩=some v:=by
 rw[aA h];simpa using hi
theorem SB.fr{w:World}{p:Nat}{TT:TypeId}{xs:List Value}(h:SB w p TT xs)(i:Nat):w.frozen? ⟨p,i,none⟩=false:=aE h
theorem SB.set{w:World}{p:Nat}{TT:TypeId}{xs:List Value}(h:SB w p TT xs)(i:Nat)(v:Value):SB (w.setCell ⟨p,i,none⟩ v) p TT (xs.set i v):=by
 have:=aH (i:=i) h v
 simpa[SB] using this
theorem SB.other{w:World}{p:Nat}{TT:TypeId}{xs:List Value}(h:SB w p TT xs){b:Nat}(hb:p≠b)(i:Nat)(v:Value):SB (w.setCell ⟨b,i,none⟩ v) p TT xs:=(aD hb v).trans h
theorem A0{bs kb c:Nat}{L:aM}{u:K->Nat}{arr:List K}{w:World}(h:o9 bs kb c L u arr w)(i j:Nat)(hi:i<arr.length)(hj:j<arr.length) :
 Calls Tryz.prog 211 #[.slice (some ⟨kb,0,none⟩) arr.length c,.int .i64 (i:Nat),.int .i64 (j:Nat)] w fun e w'=>e = .returned (.bool (decide (fK u arr i<fK u arr j)))/\Below w.heap.size w w':=by
 have h1:=List.getElem?_eq_getElem hi;have h2:=List.getElem?_eq_getElem hj;generalize arr[i]=ki at h1;generalize arr[j]=kj at h2;obtain⟨F1,hM1⟩:=mS ki;obtain⟨F2,hM2⟩:=mS kj;have m1:=hM1.common;have m2:=hM1.ncommon;have m3:=hM2.common;have m4:=hM2.ncommon;have c1:=h.cell h1;have c2:=h.cell h2;obtain⟨_,_,s1,_,s3⟩:=h.pl i ki h1;obtain⟨_,_,s2,_,s4⟩:=h.pl j kj h2;have d1:=s1.cell s3;have d2:=s2.cell s4;clear s1 s2 s3 s4;have HU:=hid (show decide (fK u arr i<fK u arr j)=decide (((u ki:Nat):Int)<((u kj:Nat):Int)) by simp[fK,h1,h2]);generalize TI ki=Ti at m1 m2 c1;generalize TI kj=Tj at m3 m4 c2;generalize L.bk ki=pi at c1 d1;generalize L.bk kj=pj at c2 d2;generalize u ki=ui at d1 HU;generalize u kj=uj at d2 HU;have hi0:(0:Int)<=(i:Int):=by omega
 have hj0:(0:Int)<=(j:Int):=by omega
 have him:(i:Int)<(arr.length:Int):=by omega
 have hjm:(j:Int)<(arr.length:Int):=by omega
 rw[HU.out];generalize arr.length=m at *;clear h h1 h2 hM1 hM2 HU;go_enter Tryz.func211,Tryz.ntmps211;go_wp2;go_quiet (first
  | (go_at_call_of 219 (Value.pointer (some ⟨pi,0,none⟩));refine Calls.quiet_of_same (eQ pi _))
  | (go_at_call_of 219 (Value.pointer (some ⟨pj,0,none⟩));refine Calls.quiet_of_same (eQ pj _)))
 go_wp2;go_ret;exact⟨by simp,below_drewN _ _⟩
structure PF (L:aM) (kb:Nat) (arr:List K) (w w':World):Prop where
 os:w'.os=w.os
 tape:w'.tape=w.tape
 output:w'.output=w.output
 size:w.heap.size<=w'.heap.size
 far:∀b,b<w.heap.size->b≠kb->(∀k∈arr,b≠L.bk k)->w'.heap[b]? = w.heap[b]?
 slot:∀k∈arr,∀T xs,SB w (L.bk k) T xs->∃x,SB w' (L.bk k) T (xs.set 10 x)
theorem PF.of_below{L:aM}{kb:Nat}{arr:List K}{w w':World}(h:Below w.heap.size w w'):PF L kb arr w w':=
 ⟨h.os,h.tape,h.output,h.size,fun b hb _ _=>h.block b hb,fun k _ T xs hs=>by
  have hs':SB w' (L.bk k) T xs:=below_heap h (aB hs) hs;cases hx:xs[10]? with
  | none=>exact⟨.nilIface,by rw[List.set_eq_of_length_le (by simpa using hx)];exact hs'⟩
  | some x=>exact⟨x,by
   obtain⟨hl,he⟩:=List.getElem?_eq_some_iff.1 hx;rw[<-he,List.set_getElem_self];exact hs'⟩⟩
theorem PF.trans{L:aM}{kb:Nat}{arr arr':List K}{w w1 w2:World}(h:PF L kb arr w w1)(g:PF L kb arr' w1 w2)(hp:∀k,k∈arr'↔k∈arr):PF L kb arr w w2:=
 ⟨g.os.trans h.os,g.tape.trans h.tape,g.output.trans h.output,Nat.le_trans h.size g.size,fun b hb h1 h2=>
  (g.far b (Nat.lt_of_lt_of_le hb h.size) h1 fun k hk=>h2 k ((hp k).1 hk)).trans (h.far b hb h1 h2),fun k hk T xs hs=>by
  obtain⟨x,hx⟩:=h.slot k hk T xs hs;obtain⟨y,hy⟩:=g.slot k ((hp k).2 hk) T _ hx;exact⟨y,by rw[List.set_set] at hy;exact hy⟩⟩
theorem DB{w:World}{B g c n:Nat}{T:TypeId}{xs:List Value}(h:w.ownsRow B T 1 (.slice (some ⟨g,0,none⟩) n c) n xs)(i:Nat)(v:Value):(w.setCell ⟨g,i,none⟩ v).ownsRow B T 1 (.slice (some ⟨g,0,none⟩) n c) n (xs.set i v):=by
 obtain⟨hl,h1|⟨g',cap,cur,h1,h2,h3,h4,h5,h6,h7⟩⟩:=h
 . simp at h1
 . simp only[Value.slice.injEq,Option.some.injEq,Addr.mk.injEq,true_and,and_true] at h1
   obtain⟨rfl,rfl⟩:=h1;refine⟨by simp[hl],.inr ⟨g,c,cur.setIfInBounds i v,rfl,h2,aH h3 v,h4,h5,by simp[h6],?_⟩⟩;rw[<-h7];simp[List.take_set]
theorem nO{w:World}{b i j:Nat}{v:Value}(h:w.cell? ⟨b,j,none⟩=some v):(w.setCell ⟨b,i,none⟩ v).cell? ⟨b,j,none⟩=some v:=by
 by_cases hij:i=j
 . subst hij
   exact World.cell?_setCell_same _ _ _ h
 . rw[World.cell?_setCell_other _ _ _ _ (by intro e;injection e with _ e2;exact hij e2)]
   exact h
structure One (b:Nat) (w w':World):Prop where
 os:w'.os=w.os
 tape:w'.tape=w.tape
 output:w'.output=w.output
 size:w'.heap.size=w.heap.size
 block:∀k:Nat,k≠b->w'.heap[k]? = w.heap[k]?
theorem One.setCell(w:World)(b i:Nat)(v:Value):One b w (w.setCell ⟨b,i,none⟩ v):=⟨rfl,rfl,rfl,by simp,fun k hk=>aD hk v⟩
theorem One.drew{b:Nat}{w w':World}(h:One b w w'):One b w w'.drew:=⟨h.os,h.tape,h.output,h.size,h.block⟩
theorem One.trans{b:Nat}{w w1 w2:World}(h:One b w w1)(g:One b w1 w2):One b w w2:=⟨g.os.trans h.os,g.tape.trans h.tape,g.output.trans h.output,g.size.trans h.size,fun k hk=>(g.block k hk).trans (h.block k hk)⟩
theorem DC{w w':World}{B g:Nat}{T:TypeId}{size n b:Nat}{v:Value}{xs:List Value}(h:w.ownsRow B T size v n xs)(ho:One b w w')(hb:v.ownBlock≠some b):w'.ownsRow B T size v n xs:=by
 obtain⟨hl,h1|⟨g,cap,cur,h1,h2,h3,h4⟩⟩:=h
 . exact⟨hl,.inl h1⟩
 . exact⟨hl,.inr ⟨g,cap,cur,h1,h2,by rw[ho.block g fun e=>hb (by rw[h1,<-e];rfl)];exact h3,h4⟩⟩
theorem Ei{bs kb c:Nat}{L:aM}{u:K->Nat}{arr:List K}{w W1 W2 W3:World}(h:o9 bs kb c L u arr w){i j:Nat}{ki kj:K}(h1:arr[i]? = some ki)(h2:arr[j]? = some kj)
 (g1:One kb w W1) (o1:W1.ownsRow 0 94 1 (.slice (some ⟨kb,0,none⟩) arr.length c) arr.length (((arr.map (aY L)).set i (aY L kj)).set j (aY L ki)))
 (g2:One (L.bk kj) W1 W2) (s2:∀T xs,SB W1 (L.bk kj) T xs->SB W2 (L.bk kj) T (xs.set 10 (.int .i64 i)))
 (g3:One (L.bk ki) W2 W3) (s3:∀T xs,SB W2 (L.bk ki) T xs->SB W3 (L.bk ki) T (xs.set 10 (.int .i64 j))) :
 o9 bs kb c L u (eG arr i j) W3/\PF L kb arr w W3:=by
 obtain⟨hil,hie⟩:=List.getElem?_eq_some_iff.1 h1;obtain⟨hjl,hje⟩:=List.getElem?_eq_some_iff.1 h2;have hmi:=List.mem_of_getElem? h1;have hmj:=List.mem_of_getElem? h2;have n1:=h.ne ki hmi;have n2:=h.ne kj hmj;have hkb:=h.kbs;have hperm:=tM arr i j;have hget:=nN hil hjl;have hidx:∀(t:Nat) (k:K),arr[t]? = some k->∀(t':Nat),arr[t']? = some k->t'=t:=fun t k ht t' ht'=>by
  obtain⟨a,b⟩:=List.getElem?_eq_some_iff.1 ht;obtain⟨a',b'⟩:=List.getElem?_eq_some_iff.1 ht';exact (List.getElem_inj h.nd).1 (b'.trans b.symm)
 have hfar:∀b:Nat,b≠kb->b≠L.bk kj->b≠L.bk ki->W3.heap[b]? = w.heap[b]?:=fun b a1 a2 a3=>(g3.block b a3).trans ((g2.block b a2).trans (g1.block b a1));have hslot:∀k∈arr,∀T xs,SB w (L.bk k) T xs->SB W3 (L.bk k) T (if k=ki then xs.set 10 (.int .i64 j) else if k=kj then xs.set 10 (.int .i64 i) else xs):=fun k hk T xs hs=>by
  have q1:SB W1 (L.bk k) T xs:=(g1.block _ (h.ne k hk).1).trans hs;by_cases e1:k=ki
  . subst e1
    rw[if_pos rfl];by_cases e2:k=kj
    . subst e2
      have:=s3 _ _ (s2 _ _ q1)
      rw[List.set_set] at this;exact this
    . exact s3 _ _ ((g2.block _ fun e=>e2 (h.inj k hk kj hmj e)).trans q1)
  . rw[if_neg e1]
    by_cases e2:k=kj
    . subst e2
      rw[if_pos rfl];exact (g3.block _ fun e=>e1 (h.inj k hk ki hmi e)).trans (s2 _ _ q1)
    . rw[if_neg e2]
      exact (g3.block _ fun e=>e1 (h.inj k hk ki hmi e)).trans ((g2.block _ fun e=>e2 (h.inj k hk kj hmj e)).trans q1)
 refine⟨⟨?_,?_,fun t k ht=>?_,hperm.nodup_iff.2 h.nd,fun a ha b hb=>h.inj a (hperm.mem_iff.1 ha) b (hperm.mem_iff.1 hb),fun k hk=>h.ne k (hperm.mem_iff.1 hk),h.kbs,by rw[cN];exact h.len⟩,⟨g3.os.trans (g2.os.trans g1.os),g3.tape.trans (g2.tape.trans g1.tape),g3.output.trans (g2.output.trans g1.output),by rw[g3.size,g2.size,g1.size];exact Nat.le_refl _,fun b hb hbk' hbs=>hfar b hbk' (hbs kj hmj) (hbs ki hmi),fun k hk T xs hs=>?_⟩⟩
 . rw[cN]
   exact (World.cell?_of_block (w:=w) (a:=⟨bs,5,none⟩) (hfar bs (Ne.symm hkb) (Ne.symm n2.2) (Ne.symm n1.2))).trans h.v
 . rw[cN]
   have e:((arr.map (aY L)).set i (aY L kj)).set j (aY L ki)=(eG arr i j).map (aY L):=by
    apply List.ext_getElem?;intro t;rw[List.getElem?_map,hget,List.getElem?_set,List.getElem?_set];by_cases hj:j=t
    . subst hj;simp[hjl,h1]
    . rw[if_neg hj,if_neg (Ne.symm hj)]
      by_cases hi:i=t
      . subst hi;simp[hil,h2]
      . rw[if_neg hi,if_neg (Ne.symm hi),List.getElem?_map]
   rw[<-e];exact DC (g:=0) (DC (g:=0) o1 g2 (by simp[Value.ownBlock];exact fun e=>n2.1 e.symm)) g3 (by simp[Value.ownBlock];exact fun e=>n1.1 e.symm)
 . have hkm:k∈arr:=hperm.mem_iff.1 (List.mem_of_getElem? ht)
   obtain⟨t0,ht0⟩:=List.getElem?_of_mem hkm;obtain⟨T,xs,a0,b0,c0⟩:=h.pl t0 k ht0;have hl:10<xs.length:=(List.getElem?_eq_some_iff.1 b0).1;refine⟨T,_,hslot k hkm T xs a0,?_⟩;rw[hget] at ht;by_cases hj:t=j
   . subst hj
     rw[if_pos rfl,h1] at ht;cases ht;rw[if_pos rfl];exact⟨by simp[hl],by rw[List.getElem?_set_ne (by decide)];exact c0⟩
   . rw[if_neg hj] at ht
     by_cases hi:t=i
     . subst hi
       rw[if_pos rfl,h2] at ht;cases ht;have hne:¬kj=ki:=fun e=>hj (hidx j kj h2 t (by rw[h1,e]));rw[if_neg hne,if_pos rfl];exact⟨by simp[hl],by rw[List.getElem?_set_ne (by decide)];exact c0⟩
     . rw[if_neg hi] at ht
       have e1:¬k=ki:=fun e=>hi (hidx t k ht i (by rw[h1,e])).symm;have e2:¬k=kj:=fun e=>hj (hidx t k ht j (by rw[h2,e])).symm;rw[if_neg e1,if_neg e2];have:=hidx t0 k ht0 t ht
       subst this;exact⟨b0,c0⟩
 . have:=hslot k hk T xs hs
   by_cases e1:k=ki
   . rw[if_pos e1] at this;exact⟨_,this⟩
   . rw[if_neg e1] at this
     by_cases e2:k=kj
     . rw[if_pos e2] at this;exact⟨_,this⟩
     . rw[if_neg e2] at this
       obtain⟨t0,ht0⟩:=List.getElem?_of_mem hk;obtain⟨T0,xs0,a0,b0,_⟩:=h.pl t0 k ht0;have e:=hs.symm.trans a0;injection e with e;injection e with e3 e4 _;injection e3 with e3;subst e3;obtain⟨hl,he⟩:=List.getElem?_eq_some_iff.1 b0;refine⟨.int .i64 t0,?_⟩;rw[<-he,List.set_getElem_self];exact this
theorem A1{bs kb c:Nat}{L:aM}{u:K->Nat}{arr:List K}{w:World}(h:o9 bs kb c L u arr w)(i j:Nat)(hi:i<arr.length)(hj:j<arr.length) :
 Calls Tryz.prog 212 #[.slice (some ⟨kb,0,none⟩) arr.length c,.int .i64 (i:Nat),.int .i64 (j:Nat)] w fun e w'=>e = .returned (.tuple #[])/\o9 bs kb c L u (eG arr i j) w'/\PF L kb arr w w':=by
 have h1:=List.getElem?_eq_getElem hi;have h2:=List.getElem?_eq_getElem hj;obtain⟨ki,hki⟩:∃k,k=arr[i]:=⟨_,rfl⟩
 obtain⟨kj,hkj⟩:∃k,k=arr[j]:=⟨_,rfl⟩
 rw[<-hki] at h1;rw[<-hkj] at h2;clear hki hkj;obtain⟨F1,hM1⟩:=mS ki;obtain⟨F2,hM2⟩:=mS kj;have m1:=hM1.common;have m2:=hM1.ncommon;have m3:=hM2.common;have m4:=hM2.ncommon;have c1:=h.cell h1;have c2:=h.cell h2;have x1:(w.setCell ⟨kb,i,none⟩ (.iface (TI kj) (.pointer (some ⟨L.bk kj,0,none⟩)))).drew.cell? ⟨kb,j,none⟩=some (.iface (TI kj) (.pointer (some ⟨L.bk kj,0,none⟩))):=nO c2;have x2:(w.setCell ⟨kb,j,none⟩ (.iface (TI ki) (.pointer (some ⟨L.bk ki,0,none⟩)))).drew.cell? ⟨kb,i,none⟩=some (.iface (TI ki) (.pointer (some ⟨L.bk ki,0,none⟩))):=nO c1;have f1:=h.fr i;have f2:=h.fr j;have hi0:(0:Int)<=(i:Int):=by omega
 have hj0:(0:Int)<=(j:Int):=by omega
 have him:(i:Int)<(arr.length:Int):=by omega
 have hjm:(j:Int)<(arr.length:Int):=by omega
 have HH:=hid h;have H1:=hid h1;have H2:=hid h2;have HI:=hid hi;have HJ:=hid hj;obtain⟨m,hm⟩:∃m,m=arr.length:=⟨_,rfl⟩
 rw[<-hm] at him hjm ⊢;have HM:=hid hm;clear h h1 h2 hM1 hM2 hm hi hj;go_enter Tryz.func212,Tryz.ntmps212;go_wp2;go_region
 go_wp2_with fail
 have d1:(((w.setCell ⟨kb,i,none⟩ (.iface (TI kj) (.pointer (some ⟨L.bk kj,0,none⟩)))).setCell ⟨kb,j,none⟩ (.iface (TI ki) (.pointer (some ⟨L.bk ki,0,none⟩)))).drew).cell? ⟨kb,i,none⟩=some (.iface (TI kj) (.pointer (some ⟨L.bk kj,0,none⟩))):=by
  by_cases hij:i=j
  . subst hij
    have e:ki=kj:=Option.some.inj (H1.out.symm.trans H2.out);subst e;exact nO (nO c1)
  . refine (World.cell?_setCell_other _ _ _ _ (by intro e;injection e with _ e2;exact hij e2.symm)).trans ?_
    exact World.cell?_setCell_same _ _ _ c1
 have d2:(((w.setCell ⟨kb,i,none⟩ (.iface (TI kj) (.pointer (some ⟨L.bk kj,0,none⟩)))).setCell ⟨kb,j,none⟩ (.iface (TI ki) (.pointer (some ⟨L.bk ki,0,none⟩)))).drew).cell? ⟨kb,j,none⟩=some (.iface (TI ki) (.pointer (some ⟨L.bk ki,0,none⟩))):=World.cell?_setCell_same _ _ _ x1;have hmi:=List.mem_of_getElem? H1.out;have hmj:=List.mem_of_getElem? H2.out;have n1:=HH.out.ne ki hmi;have n2:=HH.out.ne kj hmj;obtain⟨_,_,t1,t3,_⟩:=HH.out.pl i ki H1.out;obtain⟨_,_,t2,t4,_⟩:=HH.out.pl j kj H2.out;have p1:=t1.cell t3;have p2:=t2.cell t4;have q1:=t1.fr 10;have q2:=t2.fr 10;clear t1 t2 t3 t4;have e1:(((w.setCell ⟨kb,i,none⟩ (.iface (TI kj) (.pointer (some ⟨L.bk kj,0,none⟩)))).setCell ⟨kb,j,none⟩ (.iface (TI ki) (.pointer (some ⟨L.bk ki,0,none⟩)))).drew).cell? ⟨L.bk ki,10,none⟩=some (.int .i64 i):=((World.cell?_setCell_other _ _ _ _ (by intro e;injection e with e2;exact n1.1 e2.symm)).trans (World.cell?_setCell_other _ _ _ _ (by intro e;injection e with e2;exact n1.1 e2.symm))).trans p1;have e2:(((w.setCell ⟨kb,i,none⟩ (.iface (TI kj) (.pointer (some ⟨L.bk kj,0,none⟩)))).setCell ⟨kb,j,none⟩ (.iface (TI ki) (.pointer (some ⟨L.bk ki,0,none⟩)))).drew).cell? ⟨L.bk kj,10,none⟩=some (.int .i64 j):=((World.cell?_setCell_other _ _ _ _ (by intro e;injection e with e2;exact n2.1 e2.symm)).trans (World.cell?_setCell_other _ _ _ _ (by intro e;injection e with e2;exact n2.1 e2.symm))).trans p2;have r1:(((w.setCell ⟨kb,i,none⟩ (.iface (TI kj) (.pointer (some ⟨L.bk kj,0,none⟩)))).setCell ⟨kb,j,none⟩ (.iface (TI ki) (.pointer (some ⟨L.bk ki,0,none⟩)))).drew).frozen? ⟨L.bk ki,10,none⟩=false:=by simpa using q1
 have r2:(((w.setCell ⟨kb,i,none⟩ (.iface (TI kj) (.pointer (some ⟨L.bk kj,0,none⟩)))).setCell ⟨kb,j,none⟩ (.iface (TI ki) (.pointer (some ⟨L.bk ki,0,none⟩)))).drew).frozen? ⟨L.bk kj,10,none⟩=false:=by simpa using q2
 have HG:=hid (((One.setCell w kb i (.iface (TI kj) (.pointer (some ⟨L.bk kj,0,none⟩)))).trans (One.setCell _ kb j (.iface (TI ki) (.pointer (some ⟨L.bk ki,0,none⟩))))).drew);have HO:Hid (World.ownsRow (((w.setCell ⟨kb,i,none⟩ (.iface (TI kj) (.pointer (some ⟨L.bk kj,0,none⟩)))).setCell ⟨kb,j,none⟩ (.iface (TI ki) (.pointer (some ⟨L.bk ki,0,none⟩)))).drew) 0 94 1 (.slice (some ⟨kb,0,none⟩) arr.length c) arr.length (((arr.map (aY L)).set i (aY L kj)).set j (aY L ki))):=DB (DB HH.out.own i (aY L kj)) j (aY L ki);generalize hW:((w.setCell ⟨kb,i,none⟩ (.iface (TI kj) (.pointer (some ⟨L.bk kj,0,none⟩)))).setCell ⟨kb,j,none⟩ (.iface (TI ki) (.pointer (some ⟨L.bk ki,0,none⟩)))).drew=W at d1 d2 e1 e2 r1 r2 HG HO ⊢;clear hW x1 x2 c1 c2 f1 f2 p1 p2 q1 q2;have y1:(W.setCell ⟨L.bk kj,10,none⟩ (.int .i64 i)).drew.cell? ⟨kb,j,none⟩=some (.iface (TI ki) (.pointer (some ⟨L.bk ki,0,none⟩))):=(World.cell?_setCell_other _ _ _ _ (by intro e;injection e with e2;exact n2.1 e2)).trans d2;obtain⟨z,y2⟩:∃z:Int,(W.setCell ⟨L.bk kj,10,none⟩ (.int .i64 i)).drew.cell? ⟨L.bk ki,10,none⟩=some (.int .i64 z):=by
  by_cases hp:L.bk kj=L.bk ki
  . exact⟨i,by rw[<-hp];exact World.cell?_setCell_same _ _ _ e2⟩
  . exact⟨i,(World.cell?_setCell_other _ _ _ _ (by intro e;injection e with e2;exact hp e2)).trans e1⟩
 have HN:=hid (And.intro n1 n2);have HE:=hid (And.intro hmi hmj);clear n1 n2 hmi hmj;go_region_with (first
  | (go_at_call_of 219 (Value.pointer (some ⟨L.bk ki,0,none⟩));refine (eQ (L.bk ki) _).mono ?_;rintro e w1⟨rfl,rfl⟩)
  | (go_at_call_of 219 (Value.pointer (some ⟨L.bk kj,0,none⟩));refine (eQ (L.bk kj) _).mono ?_;rintro e w1⟨rfl,rfl⟩))
 all_goals
  go_wp2;go_end0
  exact⟨rfl,Ei (W2:=W.setCell ⟨L.bk kj,10,none⟩ (.int .i64 i)) HH.out H1.out H2.out HG.out HO.out (One.setCell _ _ _ _) (fun T xs hs=>hs.set 10 _) (One.setCell _ _ _ _).drew (fun T xs hs=>hs.set 10 _)⟩

theorem Cp(bs:Nat)(w:World):(nilAhead 414 96 (.pointer (some ⟨bs,5, none⟩)) "Len").run Tryz.prog w = .ok (some false) w:=by kernel_rfl
theorem DD(bs:Nat)(w:World):(nilAhead 414 96 (.pointer (some ⟨bs,5, none⟩)) "Less").run Tryz.prog w = .ok (some false) w:=by kernel_rfl
theorem Jp(bs:Nat)(w:World):(nilAhead 414 96 (.pointer (some ⟨bs,5, none⟩)) "Push").run Tryz.prog w = .ok (some false) w:=by kernel_rfl
theorem Gb(bs:Nat)(w:World):(method 414 96 (.pointer (some ⟨bs,5, none⟩)) "Push").run Tryz.prog w = .ok (214,.pointer (some ⟨bs,5,none⟩)) w:=by kernel_rfl
theorem uB:Tryz.prog.underlying 96=some (.pointer 61):=by kernel_rfl
theorem Jq:(Tryz.prog.info? 96).bind (fun i=>(i.methods.find? (·.name == "Len")).map (fun m=>(m.path,m.func)))=some (#[],some (210,false)):=by kernel_rfl
theorem zG(bs:Nat)(v:Value)(w:World)(h:w.cell? ⟨bs,5,none⟩=some v):(method 414 96 (.pointer (some ⟨bs,5, none⟩)) "Len").run Tryz.prog w = .ok (210,v) w:=by
 obtain⟨i,hi,hm⟩:=Option.bind_eq_some_iff.1 Jq;obtain⟨m,hm1,hm2⟩:=Option.map_eq_some_iff.1 hm;simp only[Prod.mk.injEq] at hm2;obtain⟨p1,p2⟩:=hm2;obtain⟨d,hd⟩:∃d,(414:Nat)=d+1:=⟨414-1,rfl⟩
 rw[hd];have hw:∀(s t:ByteArray) (w:World),(Builtin.ssaWrapNilChk_ #[96] 96 #[.pointer (some ⟨bs,5,none⟩),.string s,.string t]).run Tryz.prog w = .ok (.pointer (some ⟨bs,5,none⟩)) w:=fun s t w=>by kernel_rfl
 simp[method,go_sem,strVal,hw,typeInfo,hi,hm1,p1,p2,follow,receiverAt,Place.get,run_underlying uB,h,Result.andThen]
theorem Gc:(Tryz.prog.info? 96).bind (fun i=>(i.methods.find? (·.name == "Less")).map (fun m=>(m.path,m.func)))=some (#[],some (211,false)):=by kernel_rfl
theorem mT(bs:Nat)(v:Value)(w:World)(h:w.cell? ⟨bs,5,none⟩=some v):(method 414 96 (.pointer (some ⟨bs,5, none⟩)) "Less").run Tryz.prog w = .ok (211,v) w:=by
 obtain⟨i,hi,hm⟩:=Option.bind_eq_some_iff.1 Gc;obtain⟨m,hm1,hm2⟩:=Option.map_eq_some_iff.1 hm;simp only[Prod.mk.injEq] at hm2;obtain⟨p1,p2⟩:=hm2;obtain⟨d,hd⟩:∃d,(414:Nat)=d+1:=⟨414-1,rfl⟩
 rw[hd];have hw:∀(s t:ByteArray) (w:World),(Builtin.ssaWrapNilChk_ #[96] 96 #[.pointer (some ⟨bs,5,none⟩),.string s,.string t]).run Tryz.prog w = .ok (.pointer (some ⟨bs,5,none⟩)) w:=fun s t w=>by kernel_rfl
 simp[method,go_sem,strVal,hw,typeInfo,hi,hm1,p1,p2,follow,receiverAt,Place.get,run_underlying uB,h,Result.andThen]
theorem Gd:(Tryz.prog.info? 96).bind (fun i=>(i.methods.find? (·.name == "Swap")).map (fun m=>(m.path,m.func)))=some (#[],some (212,false)):=by kernel_rfl
theorem mU(bs:Nat)(v:Value)(w:World)(h:w.cell? ⟨bs,5,none⟩=some v):(method 414 96 (.pointer (some ⟨bs,5, none⟩)) "Swap").run Tryz.prog w = .ok (212,v) w:=by
 obtain⟨i,hi,hm⟩:=Option.bind_eq_some_iff.1 Gd;obtain⟨m,hm1,hm2⟩:=Option.map_eq_some_iff.1 hm;simp only[Prod.mk.injEq] at hm2;obtain⟨p1,p2⟩:=hm2;obtain⟨d,hd⟩:∃d,(414:Nat)=d+1:=⟨414-1,rfl⟩
 rw[hd];have hw:∀(s t:ByteArray) (w:World),(Builtin.ssaWrapNilChk_ #[96] 96 #[.pointer (some ⟨bs,5,none⟩),.string s,.string t]).run Tryz.prog w = .ok (.pointer (some ⟨bs,5,none⟩)) w:=fun s t w=>by kernel_rfl
 simp[method,go_sem,strVal,hw,typeInfo,hi,hm1,p1,p2,follow,receiverAt,Place.get,run_underlying uB,h,Result.andThen]
theorem zH(bs:Nat)(w:World):(nilAhead 414 96 (.pointer (some ⟨bs,5, none⟩)) "Swap").run Tryz.prog w = .ok (some false) w:=by kernel_rfl
theorem K7(bs:Nat)(w:World):(nilAhead 414 96 (.pointer (some ⟨bs,5, none⟩)) "Pop").run Tryz.prog w = .ok (some false) w:=by kernel_rfl
theorem Jr(bs:Nat)(w:World):(method 414 96 (.pointer (some ⟨bs,5, none⟩)) "Pop").run Tryz.prog w = .ok (213,.pointer (some ⟨bs,5,none⟩)) w:=by kernel_rfl
theorem DE(args:Array Value)(w:World):(callFunc 211 args).run Tryz.prog w = .ok (.enter 211 args) w:=by kernel_rfl
theorem zI(args:Array Value)(w:World):(callFunc 212 args).run Tryz.prog w = .ok (.enter 212 args) w:=by kernel_rfl
theorem Cq(args:Array Value)(w:World):(callFunc 210 args).run Tryz.prog w = .ok (.enter 210 args) w:=by kernel_rfl
theorem Js(args:Array Value)(w:World):(callFunc 214 args).run Tryz.prog w = .ok (.enter 214 args) w:=by kernel_rfl
theorem K8(args:Array Value)(w:World):(callFunc 213 args).run Tryz.prog w = .ok (.enter 213 args) w:=by kernel_rfl
theorem zJ(a:Option Addr)(m c:Nat)(w:World):Calls Tryz.prog 210 #[.slice a m c] w fun e w'=>e = .returned (.int .i64 (m:Nat))/\w'=w:=by
 go_enter Tryz.func210,Tryz.ntmps210;go_wp2;go_ret;exact⟨rfl,rfl⟩
def gQ(bs:Nat):Value:=.iface 96 (.pointer (some ⟨bs,5,none⟩))
structure HT (bs kb c:Nat) (L:aM) (u:K->Nat) (arr:List K) (w:World) (arr':List K) (w':World):Prop where
 hp:o9 bs kb c L u arr' w'
 pf:PF L kb arr w w'
 perm:arr'.Perm arr
theorem HT.refl{bs kb c:Nat}{L:aM}{u:K->Nat}{arr:List K}{w:World}(h:o9 bs kb c L u arr w):HT bs kb c L u arr w arr w:=⟨h,PF.of_below (Below.refl _ _),List.Perm.refl _⟩
theorem HT.below{bs kb c:Nat}{L:aM}{u:K->Nat}{arr arr':List K}{w w1 w2:World}(h:HT bs kb c L u arr w arr' w1)(hb:Below w1.heap.size w1 w2):HT bs kb c L u arr w arr' w2:=
 ⟨h.hp.below hb,h.pf.trans (arr':=arr') (PF.of_below hb) fun k=>h.perm.mem_iff,h.perm⟩
theorem HT.swap{bs kb c:Nat}{L:aM}{u:K->Nat}{arr arr':List K}{w w1 w2:World}(h:HT bs kb c L u arr w arr' w1){i j:Nat}(h1:o9 bs kb c L u (eG arr' i j) w2)(h2:PF L kb arr' w1 w2):HT bs kb c L u arr w (eG arr' i j) w2:=
 ⟨h1,h.pf.trans h2 fun k=>h.perm.mem_iff,(tM _ _ _).trans h.perm⟩
theorem Ej{bs kb c:Nat}{L:aM}{u:K->Nat}{arr:List K}{w:World}(h:o9 bs kb c L u arr w)(j:Nat)(hj:j<arr.length) :
 Calls Tryz.prog 152 #[gQ bs,.int .i64 (j:Nat)] w fun e w'=>e = .returned (.tuple #[])/\HT bs kb c L u arr w (tO u (j+1) arr j) w':=by
 unfold gQ;have HS:=hid (HT.refl h);have HJ:=hid hj;have m2:=DD bs;have m3:=DE;have m5:=zH bs;have m6:=zI;clear h hj;go_enter Tryz.func152,Tryz.ntmps152;go_wp2;go_loopg [1] (j+1) (fun g vj wr=>∃(t:Nat) (l:List K),g=t+1/\vj = .int .i64 (t:Nat)/\t<l.length/\HT bs kb c L u arr w l wr/\tO u (t+1) l t=tO u (j+1) arr j)
 case atStart=>exact⟨j,arr,rfl,rfl,HJ.out,HS.out,rfl⟩
 case round=>
  obtain⟨t,l,rfl,rfl,htl,hht,Ej⟩:=hrel;have hmax:l.length<=1099511627776:=hht.hp.len;rcases t with _|t
  . have HH:=hid hht
    have HU:=hid Ej;clear hht Ej HS;go_wp2;go_end0
    rw[<-HU.out];exact⟨rfl,HH.out⟩
  . obtain⟨p,hp⟩:∃p,p=t / 2:=⟨_,rfl⟩
    have htt:(t:Int)<1099511627776:=by omega
    have ht0:(0:Int)<=(t:Int):=by omega
    have hp0:(0:Int)<=(p:Int):=by omega
    have hpt:(p:Int)<1099511627776:=by omega
    have hdv:(t:Int).tdiv 2=(p:Int):=by rw[Int.tdiv_eq_ediv_of_nonneg ht0];omega
    have hbne:((p:Int)==(t:Int)+1)=false:=by rw[beq_eq_false_iff_ne];omega
    have hpar:par (t+1)=p:=by unfold par;omega
    have HPT:=hid (show p<=t by omega);have HPAR:=hid hpar;have HH:=hid hht;have HU:=hid Ej;have HL:=hid (A0 hht.hp (t+1) p htl (by omega));have c5:=hht.hp.v;have m1:=mT bs _ wr c5;have HTL:=hid htl;clear hht Ej HS hp hpar htl;cases hlt:decide (fK u l (t+1)<fK u l p) with
    | false=>
     rw[hlt] at HL;have HF:=hid hlt;clear hlt;go_wp2_with fail
     refine HL.out.mono ?_;rintro e w1⟨rfl,hb⟩;have HB:=hid hb;clear hb;go_wp2;go_end0
     rw[<-HU.out];have e1:tO u (t+1+1) l (t+1)=l:=by
      have h1:=HF.out;have h2:=HPT.out;simp only[decide_eq_false_iff_not] at h1;unfold tO;rw[HPAR.out,if_neg (by omega),if_neg h1]
     rw[e1];exact⟨rfl,HH.out.below HB.out⟩
    | true=>
     rw[hlt] at HL;have HF:=hid hlt;clear hlt;go_wp2_with fail
     refine HL.out.mono ?_;rintro e w1⟨rfl,hb⟩;have HH1:=hid (HH.out.below hb);clear hb;have c6:=HH1.out.hp.v;have m4:=mU bs _ w1 c6;have HW:=hid (A1 HH1.out.hp p (t+1) (by have:=HPT.out;have:=HTL.out;omega) HTL.out);clear m1 c5 HL;go_wp2_with fail
     refine HW.out.mono ?_;rintro e w2⟨rfl,h1,h2⟩;have HH2:=hid (HH1.out.swap h1 h2);clear h1 h2 HW m4 c6;go_wp2;go_roundg (p+1)
     all_goals first
      | (have:=HPT.out;omega)
      | (refine⟨p,eG l p (t+1),rfl,by go_num,by rw[cN]; have:=HPT.out; have:=HTL.out; omega,HH2.out,?_⟩
         rw[<-HU.out];have h1:=HF.out;have h2:=HPT.out;simp only[decide_eq_true_eq] at h1;have e1:tO u (t+1+1) l (t+1)=tO u (t+1) (eG l p (t+1)) p:=by
          rw[tO,HPAR.out,if_neg (by omega),if_pos h1]
         rw[e1];exact tP u _ _ _ _ (by omega) (by omega))
theorem qA{u:K->Nat}{l:List K}{n t j:Nat}(h:¬n<=2*t+1)(hc:child u l n t=j)(hl:decide (fK u l j<fK u l t)=false):bT u n n l t=(l,t):=by
 cases n with
 | zero=>rfl
 | succ n=>
  rw[bT,if_neg h,hc,if_neg (of_decide_eq_false hl)]
theorem zK{u:K->Nat}{l:List K}{n t j:Nat}(h:¬n<=2*t+1)(hc:child u l n t=j)(hl:decide (fK u l j<fK u l t)=true):bT u n n l t=bT u n n (eG l t j) j:=by
 have hcl:=(kX (used:=u) (l:=l) h).2.1;rw[hc] at hcl;obtain⟨m,rfl⟩:∃m,n=m+1:=⟨n-1,by omega⟩
 conv=>lhs;rw[bT,if_neg h,hc,if_pos (of_decide_eq_true hl)]
 exact tQ u _ _ _ _ _ (by omega) (by omega)
theorem KJ{bs kb c:Nat}{L:aM}{u:K->Nat}{arr:List K}{w:World}(h:o9 bs kb c L u arr w)(i n:Nat)(hn:n<=arr.length)(hi:i<=n) :
 Calls Tryz.prog 78 #[gQ bs,.int .i64 (i:Nat),.int .i64 (n:Nat)] w fun e w'=>e = .returned (.bool (decide (i<(bT u n n arr i).2)))/\HT bs kb c L u arr w (bT u n n arr i).1 w':=by
 unfold gQ;have HS:=hid (HT.refl h);have HJ:=hid hi;have HN:=hid hn;have HST:=hid (oN (used:=u) (n:=n) n arr i).1;have m2:=DD bs;have m3:=DE;have m5:=zH bs;have m6:=zI;have hnm:(n:Int)<=1099511627776:=by have:=h.len;unfold cD at this;omega
 have him:(i:Int)<=1099511627776:=by omega
 have hn0:(0:Int)<=(n:Int):=by omega
 have hi0:(0:Int)<=(i:Int):=by omega
 clear h hi hn;go_enter Tryz.func78,Tryz.ntmps78;go_wp2;go_loopg [7] (n+1-i) (fun g vi wr=>∃(t:Nat) (l:List K),g+t=n+1/\vi = .int .i64 (t:Nat)/\t<=n/\l.length=arr.length/\HT bs kb c L u arr w l wr/\bT u n n l t=bT u n n arr i)
 case atStart=>exact⟨i,arr,by have:=HJ.out;omega,rfl,HJ.out,rfl,HS.out,rfl⟩
 case round=>
  obtain⟨t,l,hg,rfl,htn,hll,hht,hdn⟩:=hrel;have ht0:(0:Int)<=(t:Int):=by omega
  have htt:(t:Int)<=1099511627776:=by omega
  obtain⟨a,ha⟩:∃a,a=2*t+1:=⟨_,rfl⟩
  obtain⟨b,hb⟩:∃b,b=2*t+2:=⟨_,rfl⟩
  have e1:2*(t:Int)+1=(a:Int):=by omega
  have e2:(a:Int)+1=(b:Int):=by omega
  have ha0:(0:Int)<=(a:Int):=by omega
  have ham:(a:Int)<=2199023255553:=by omega
  have HA:=hid ha;have HB:=hid hb;have HG:=hid hg;have HTN:=hid htn;have HLL:=hid hll;have HH:=hid hht;have HD:=hid hdn;clear ha hb hg htn hll hht hdn HS;by_cases c1:n<=a
  . have hge:((n:Int)<=(a:Int)):=by omega
    have hdl:bT u n n l t=(l,t):=by
     have h1:=HA.out;cases n with
     | zero=>rfl
     | succ n=>rw[bT,if_pos (by omega)]
    go_wp2;go_ret;have h2:=HD.out;rw[hdl] at h2;rw[<-h2];exact⟨by simp,HH.out⟩
  . have hlt:((a:Int)<(n:Int)):=by omega
    have hge:¬((n:Int)<=(a:Int)):=by omega
    have hna:¬((a:Int)<0):=by omega
    have HLT:=hid (show a<n by omega);have HBN:=hid (show b<=n by have:=HA.out;have:=HB.out;omega);have hb0:(0:Int)<=(b:Int):=by omega
    have hbm:(b:Int)<=2199023255554:=by omega
    have c5:=HH.out.hp.v;have m1:=mT bs _ wr c5;clear c1;by_cases c2:b<n
    . have hbn:(b:Int)<(n:Int):=by omega
      have HBL:=hid c2;have HL2:=hid (A0 HH.out.hp b a (by have:=HN.out;have:=HLL.out;omega) (by have:=HLT.out;have:=HN.out;have:=HLL.out;omega));cases hl2:decide (fK u l b<fK u l a) with
      | true=>
       rw[hl2] at HL2;have HC:Hid (child u l n t=b):=hid (by
        have h1:=HA.out;have h2:=HB.out;subst h1;subst h2;unfold child;rw[if_pos ⟨c2,of_decide_eq_true hl2⟩])
       clear hl2 c2;go_wp2_with fail
       refine HL2.out.mono ?_;rintro e w1⟨rfl,hb1⟩;have HH1:=hid (HH.out.below hb1);clear hb1 m1 c5;have HJN:=hid (show b<n/\t<b by have h0:=HA.out;have h1:=HB.out;have h2:=HLT.out;have h3:=HBL.out;omega);have HL3:=hid (A0 HH1.out.hp b t (by have:=HJN.out;have:=HN.out;have:=HLL.out;omega) (by have:=HJN.out;have:=HN.out;have:=HLL.out;omega));have c6:=HH1.out.hp.v;have m7:=mT bs _ _ c6;cases hl3:decide (fK u l b<fK u l t) with
       | false=>
        rw[hl3] at HL3;have HF:=hid hl3;clear hl3;go_wp2_with fail
        refine HL3.out.mono ?_;rintro e w3⟨rfl,hb3⟩;have HH2:=hid (HH1.out.below hb3);clear hb3;go_wp2;go_ret;have hdl:bT u n n l t=(l,t):=qA (by have:=HA.out;have:=HLT.out;omega) HC.out HF.out;have h2:=HD.out;rw[hdl] at h2;rw[<-h2];exact⟨by simp,HH2.out⟩
       | true=>
        rw[hl3] at HL3;have HF:=hid hl3;clear hl3;go_wp2_with fail
        refine HL3.out.mono ?_;rintro e w3⟨rfl,hb3⟩;have HH2:=hid (HH1.out.below hb3);clear hb3 m7 c6;have c7:=HH2.out.hp.v;have m8:=mU bs _ w3 c7;have HW:=hid (A1 HH2.out.hp t b (by have:=HJN.out;have:=HN.out;have:=HLL.out;omega) (by have:=HJN.out;have:=HN.out;have:=HLL.out;omega));go_wp2_with fail
        refine HW.out.mono ?_;rintro e w4⟨rfl,h1,h2⟩;have HH3:=hid (HH2.out.swap h1 h2);clear h1 h2 HW m8 c7;go_wp2;go_roundg (n+1-b)
        all_goals first
         | (have:=HJN.out;have:=HG.out;omega)
         | (refine⟨b,eG l t b,by have:=HJN.out; omega,by go_num,by have:=HJN.out; omega,by rw[cN]; exact HLL.out,HH3.out,?_⟩
            rw[<-HD.out];exact (zK (by have:=HA.out;have:=HLT.out;omega) HC.out HF.out).symm)
      | false=>
       rw[hl2] at HL2;have HC:Hid (child u l n t=a):=hid (by
        have h1:=HA.out;have h2:=HB.out;subst h1;subst h2;unfold child;rw[if_neg (fun h=>of_decide_eq_false hl2 h.2)])
       clear hl2 c2;go_wp2_with fail
       refine HL2.out.mono ?_;rintro e w1⟨rfl,hb1⟩;have HH1:=hid (HH.out.below hb1);clear hb1 m1 c5;have HJN:=hid (show a<n/\t<a by have h0:=HA.out;have h1:=HB.out;have h2:=HLT.out;have h3:=HBL.out;omega);have HL3:=hid (A0 HH1.out.hp a t (by have:=HJN.out;have:=HN.out;have:=HLL.out;omega) (by have:=HJN.out;have:=HN.out;have:=HLL.out;omega));have c6:=HH1.out.hp.v;have m7:=mT bs _ _ c6;cases hl3:decide (fK u l a<fK u l t) with
       | false=>
        rw[hl3] at HL3;have HF:=hid hl3;clear hl3;go_wp2_with fail
        refine HL3.out.mono ?_;rintro e w3⟨rfl,hb3⟩;have HH2:=hid (HH1.out.below hb3);clear hb3;go_wp2;go_ret;have hdl:bT u n n l t=(l,t):=qA (by have:=HA.out;have:=HLT.out;omega) HC.out HF.out;have h2:=HD.out;rw[hdl] at h2;rw[<-h2];exact⟨by simp,HH2.out⟩
       | true=>
        rw[hl3] at HL3;have HF:=hid hl3;clear hl3;go_wp2_with fail
        refine HL3.out.mono ?_;rintro e w3⟨rfl,hb3⟩;have HH2:=hid (HH1.out.below hb3);clear hb3 m7 c6;have c7:=HH2.out.hp.v;have m8:=mU bs _ w3 c7;have HW:=hid (A1 HH2.out.hp t a (by have:=HJN.out;have:=HN.out;have:=HLL.out;omega) (by have:=HJN.out;have:=HN.out;have:=HLL.out;omega));go_wp2_with fail
        refine HW.out.mono ?_;rintro e w4⟨rfl,h1,h2⟩;have HH3:=hid (HH2.out.swap h1 h2);clear h1 h2 HW m8 c7;go_wp2;go_roundg (n+1-a)
        all_goals first
         | (have:=HJN.out;have:=HG.out;omega)
         | (refine⟨a,eG l t a,by have:=HJN.out; omega,by go_num,by have:=HJN.out; omega,by rw[cN]; exact HLL.out,HH3.out,?_⟩
            rw[<-HD.out];exact (zK (by have:=HA.out;have:=HLT.out;omega) HC.out HF.out).symm)
    . have hbn:¬(b:Int)<(n:Int):=by omega
      have HBL:=hid HLT.out;have HC:Hid (child u l n t=a):=hid (by
       have h1:=HA.out;have h2:=HB.out;subst h1;subst h2;unfold child;rw[if_neg (fun h=>c2 h.1)])
      have HH1:=HH;clear c2 m1 c5;have HJN:=hid (show a<n/\t<a by have h0:=HA.out;have h1:=HB.out;have h2:=HLT.out;have h3:=HBL.out;omega);have HL3:=hid (A0 HH1.out.hp a t (by have:=HJN.out;have:=HN.out;have:=HLL.out;omega) (by have:=HJN.out;have:=HN.out;have:=HLL.out;omega));have c6:=HH1.out.hp.v;have m7:=mT bs _ _ c6;cases hl3:decide (fK u l a<fK u l t) with
      | false=>
       rw[hl3] at HL3;have HF:=hid hl3;clear hl3;go_wp2_with fail
       refine HL3.out.mono ?_;rintro e w3⟨rfl,hb3⟩;have HH2:=hid (HH1.out.below hb3);clear hb3;go_wp2;go_ret;have hdl:bT u n n l t=(l,t):=qA (by have:=HA.out;have:=HLT.out;omega) HC.out HF.out;have h2:=HD.out;rw[hdl] at h2;rw[<-h2];exact⟨by simp,HH2.out⟩
      | true=>
       rw[hl3] at HL3;have HF:=hid hl3;clear hl3;go_wp2_with fail
       refine HL3.out.mono ?_;rintro e w3⟨rfl,hb3⟩;have HH2:=hid (HH1.out.below hb3);clear hb3 m7 c6;have c7:=HH2.out.hp.v;have m8:=mU bs _ w3 c7;have HW:=hid (A1 HH2.out.hp t a (by have:=HJN.out;have:=HN.out;have:=HLL.out;omega) (by have:=HJN.out;have:=HN.out;have:=HLL.out;omega));go_wp2_with fail
       refine HW.out.mono ?_;rintro e w4⟨rfl,h1,h2⟩;have HH3:=hid (HH2.out.swap h1 h2);clear h1 h2 HW m8 c7;go_wp2;go_roundg (n+1-a)
       all_goals first
        | (have:=HJN.out;have:=HG.out;omega)
        | (refine⟨a,eG l t a,by have:=HJN.out; omega,by go_num,by have:=HJN.out; omega,by rw[cN]; exact HLL.out,HH3.out,?_⟩
           rw[<-HD.out];exact (zK (by have:=HA.out;have:=HLT.out;omega) HC.out HF.out).symm)
theorem bJ{w w':World}{B:Nat}{e:TypeId}{size:Nat}{v:Value}{n:Nat}{xs:List Value}(h:w.ownsRow B e size v n xs)(hk:∀g,v.ownBlock=some g->w'.heap[g]? = w.heap[g]?):w'.ownsRow B e size v n xs:=by
 obtain⟨hl,h|⟨g,cap,cur,hv,hb,hg,h1,h2,h3,h4⟩⟩:=h
 . exact⟨hl,.inl h⟩
 . exact⟨hl,.inr ⟨g,cap,cur,hv,hb,(hk g (by rw[hv];rfl)).trans hg,h1,h2,h3,h4⟩⟩
theorem Ek:(Tryz.prog.info? 94).map (fun i=>(i.zero,i.size,i.bytes))=some (some .nilIface,1,16):=by kernel_rfl
structure uC (w w':World) (bs B p m:Nat) (c0 c1 c2 c3 c4 c6 v:Value) (xs:List Value) (x:Value):Prop where
 sess:∃v',w'.heap[bs]? = some (.cells #[c0,c1,c2,c3,c4,v',c6] 66)/\w'.ownsRow B 94 1 v' (m+1) (xs ++ [x])/\(∀q,v'.ownBlock=some q->v.ownBlock=some q\/w.heap.size<=q)
 slot:w'.heap[p]? = (w.setCell ⟨p,10,none⟩ (.int .i64 (m:Nat))).heap[p]?
 size:w.heap.size<=w'.heap.size
 far:∀q,q<w.heap.size->q≠bs->q≠p->v.ownBlock≠some q->w'.heap[q]? = w.heap[q]?
 env:w'.os=w.os/\w'.tape=w.tape/\w'.output=w.output
theorem Ge{w:World}{bs B m:Nat}{c0 c1 c2 c3 c4 c6:Value}{ao:Option Addr}{cp:Nat}{xs:List Value}(T:TypeId)(F:FuncId)(hM:MT T F)(p:Nat)(pl:Int)(h:w.heap[bs]? = some (.cells #[c0,c1,c2,c3,c4,.slice ao m cp,c6] 66))(hown:w.ownsRow B 94 1 (.slice ao m cp) m xs)(hm:m<1099511627776)(hB:B<=w.heap.size)(hbg:(Value.slice ao m cp).ownBlock≠some bs)(hp:w.cell? ⟨p,10,none⟩=some (.int .i64 pl))(hpf:w.frozen? ⟨p,10,none⟩=false)(hne:p≠bs)(hpg:(Value.slice ao m cp).ownBlock≠some p)(hpl:p<w.heap.size) :
 Calls Tryz.prog 214 #[.pointer (some ⟨bs,5,none⟩),.iface T (.pointer (some ⟨p,0,none⟩))] w fun e w'=>e = .returned (.tuple #[])/\uC w w' bs B p m c0 c1 c2 c3 c4 c6 (.slice ao m cp) xs (.iface T (.pointer (some ⟨p,0,none⟩))):=by
 have s5:w.cell? ⟨bs,5,none⟩=some (.slice ao m cp):=aA (i:=5) h;have f5:w.frozen? ⟨bs,5,none⟩=false:=aE h;have m1:=hM.common;have m0:=hM.isSlot;have m2:=hM.ncommon;obtain⟨i0,hi0,hz0,hz1,hz2⟩:=info_parts Ek;have hW:∀o,((w.setCell ⟨p,10,none⟩ (.int .i64 (m:Nat))).alloc o).drew.ownsRow B 94 1 (.slice ao m cp) m xs:=fun o=>by
  refine bJ hown fun g hg=>?_;have hl:=(hown.lt g hg).2;have h1:g≠p:=fun e=>hpg (by rw[<-e];exact hg);exact (Below.heap_alloc _ _ _ (by simpa using hl)).trans (aD h1 _)
 have hS:∀o,((w.setCell ⟨p,10,none⟩ (.int .i64 (m:Nat))).alloc o).drew.heap[bs]? = some (.cells #[c0,c1,c2,c3,c4,.slice ao m cp,c6] 66):=fun o=>
  (Below.heap_alloc _ _ _ (by have:=aB h;simpa using this)).trans ((aD hne.symm _).trans h)
 have HW:=hid hW;have HS:=hid hS;have HN:=hid hne;have HG:=hid hpg;have HPL:=hid hpl;have HOWN:=hid hown;have HH:=hid h;have HBG:=hid hbg;clear h hown hpg hW hS hbg;go_enter Tryz.func214,Tryz.ntmps214;go_wp2_with fail
 go_region_with (go_at_call 219;go_must (refine (eQ p _).mono ?_;rintro e w1⟨rfl,rfl⟩))
 all_goals go_wp2_with (at_builtin;refine wpList_append_own_at _ rfl _ _ 61 rfl B 94 i0 .nilIface 1 16 Tryz.underlying61 hi0 hz0 hz1 hz2 rfl (by decide) (.slice ao m cp) m xs (by rfl) (HW.out _) ⟨w.heap.size,0,none⟩ 1 1 [.iface T (.pointer (some ⟨p,0,none⟩))] rfl rfl ?c1 ?c2 ?c3 ?c4 ?c5 ?_)
 all_goals first
  | (intro j u hj
     match j,hj with
     | 0,hj=>simp at hj;subst hj;exact World.cell?_alloc_at _ _ _ _ (by simp)
     | (n+1),hj=>simp at hj)
  | (intro u hu;simp at hu;subst hu;rfl)
  | (unfold maxLen;omega)
  | omega
  | (simp;omega)
  | skip
 all_goals
  intro v' w5 hown' hgrow hnil hloc;have hbl:bs<w.heap.size:=aB HH.out;have h5:=(hgrow.block bs (by simp;omega) (fun e=>HBG.out e.symm)).trans (HS.out _);have g5:w5.cell? ⟨bs,5,none⟩=some (.slice ao m cp):=aA (i:=5) h5;have k5:w5.frozen? ⟨bs,5,none⟩=false:=aE h5;have hsh:∃a n c,v' = .slice a n c:=by
   obtain⟨_,⟨h,_⟩|⟨g,c,_,h,_⟩⟩:=hown'
   . exact⟨none,0,0,h⟩
   . exact⟨_,_,_,h⟩
  obtain⟨a',n',c',rfl⟩:=hsh;have hvb:∀q,(Value.slice a' n' c').ownBlock=some q->(Value.slice ao m cp).ownBlock=some q\/w.heap.size<=q:=fun q hq=>by
   rcases hloc with h1|h1
   . exact .inl (h1.symm.trans hq)
   . refine .inr ?_
     have h3:=Option.some.inj (h1.symm.trans hq);rw[<-h3];omega
  have HR:Hid (uC w (w5.setCell ⟨bs,5,none⟩ (.slice a' n' c')) bs B p m c0 c1 c2 c3 c4 c6 (.slice ao m cp) xs (.iface T (.pointer (some ⟨p,0,none⟩)))):=by
   have hz:=hgrow.size;simp at hz;refine⟨⟨_,aH h5 _,bJ hown' (fun g hg=>aD (fun e=>?_) _),hvb⟩,?_,by simp;omega,fun q hq q1 q2 q3=>?_,?_⟩
   . rcases hvb g hg with h1|h1
     . exact HBG.out (by rw[<-e];exact h1)
     . omega
   . refine (aD HN.out _).trans ((hgrow.block p (by simp;omega) (fun e=>HG.out e.symm)).trans ?_)
     exact Below.heap_alloc _ _ _ (by have:=HPL.out;simpa using this)
   . refine (aD q1 _).trans ((hgrow.block q (by simp;omega) (fun e=>q3 e.symm)).trans ?_)
     exact (Below.heap_alloc _ _ _ (by simpa using hq)).trans (aD q2 _)
   . exact⟨hgrow.os,hgrow.tape,hgrow.output⟩
  clear h5 hown' hgrow hnil hloc hvb;go_wp2;go_end0
  exact⟨rfl,HR.out⟩
theorem o9.lenI{bs kb c:Nat}{L:aM}{u:K->Nat}{arr:List K}{w:World}(h:o9 bs kb c L u arr w):(arr.length:Int)<=1099511627776:=by have:=h.len;unfold cD at this;omega
theorem wT{bs kb c:Nat}{L:aM}{u:K->Nat}{arr:List K}{w:World}(h:o9 bs kb c L u arr w)(i:Nat)(hi:i<arr.length) :
 Calls Tryz.prog 138 #[gQ bs,.int .i64 (i:Nat)] w fun e w'=>e = .returned (.tuple #[])/\HT bs kb c L u arr w (F8 u arr i) w':=by
 have HD:=hid (KJ h i arr.length (Nat.le_refl _) (Nat.le_of_lt hi));have HLN:=hid (zJ (some ⟨kb,0,none⟩) arr.length c w);have m1:=zG bs _ w h.v;have m2:=Cp bs w;have m3:=Cq;have HI:=hid hi;have HX:=hid (show F8 u arr i=if i<(bT u arr.length arr.length arr i).2 then (bT u arr.length arr.length arr i).1 else tO u (arr.length+1) (bT u arr.length arr.length arr i).1 i from rfl);clear h hi;unfold gQ at *;go_enter Tryz.func138,Tryz.ntmps138;go_wp2_with fail
 refine HLN.out.mono ?_;rintro e w1⟨rfl,rfl⟩;clear m1 m2 m3 HLN;go_wp2_with fail
 cases hm:decide (i<(bT u arr.length arr.length arr i).2) with
 | true=>
  rw[hm] at HD;have HM:=hid hm;clear hm;refine HD.out.mono ?_;rintro e w2⟨rfl,hh⟩;have HH:=hid hh;clear hh;go_wp2;go_end0
  rw[HX.out,if_pos (of_decide_eq_true HM.out)];exact⟨rfl,HH.out⟩
 | false=>
  rw[hm] at HD;have HM:=hid hm;clear hm;refine HD.out.mono ?_;rintro e w2⟨rfl,hh⟩;have HH:=hid hh;clear hh;have HU:=hid (Ej HH.out.hp i (by have:=HH.out.perm.length_eq;have:=HI.out;omega));unfold gQ at HU;go_wp2_with fail
  refine HU.out.mono ?_;rintro e w3⟨rfl,hh⟩;have HH2:=hid hh;clear hh;go_wp2;go_end0
  have hl:=HH.out.perm.length_eq;rw[HX.out,if_neg (of_decide_eq_false HM.out)];have e1:tO u (arr.length+1) (bT u arr.length arr.length arr i).1 i=tO u (i+1) (bT u arr.length arr.length arr i).1 i:=tP u _ _ _ _ (by have:=HI.out;omega) (by omega);rw[e1];exact⟨rfl,HH2.out.hp,HH.out.pf.trans HH2.out.pf fun k=>HH.out.perm.mem_iff,HH2.out.perm.trans HH.out.perm⟩
theorem K9{bs:Nat}{L:aM}{u:K->Nat}{arr:List K}{k:K}{w:World}{P:World->Nat->Nat->Prop}
 (hc:Calls Tryz.prog 214 #[.pointer (some ⟨bs,5,none⟩),aY L k] w fun e w'=>e = .returned (.tuple #[])/\∃kb c,P w' kb c) (hp:∀w1 kb c,P w1 kb c->o9 bs kb c L u (arr ++ [k]) w1) :
 Calls Tryz.prog 137 #[gQ bs,aY L k] w fun e w'=>e = .returned (.tuple #[])/\∃w1 kb c,P w1 kb c/\HT bs kb c L u (arr ++ [k]) w1 (tO u (arr.length+1) (arr ++ [k]) arr.length) w':=by
 have HC:=hid hc;have HP:=hid hp;have m1:=Gb bs;have m2:=Jp bs;have m3:=Js;unfold aY at *;unfold gQ;clear hc hp;go_enter Tryz.func137,Tryz.ntmps137;go_wp2_with fail
 refine HC.out.mono ?_;rintro e w1⟨rfl,kb,c,hp1⟩;have hh:=HP.out w1 kb c hp1;have HQ:=hid hp1;have HH:=hid hh;have hll:(arr ++ [k]).length=arr.length+1:=by simp
 have hli:=hh.lenI;rw[hll] at hli;have m4:=zG bs _ w1 hh.v;have m5:=Cp bs w1;have m6:=Cq;have HLN:=hid (zJ (some ⟨kb,0,none⟩) (arr ++ [k]).length c w1);have HU:=hid (Ej hh arr.length (by rw[hll];omega));rw[hll] at m4 HLN;unfold gQ at HU;have hl0:(0:Int)<=(arr.length:Int):=by omega
 have hl1:(arr.length:Int)<=1099511627776:=by omega
 clear hh hp1 m1 m2 m3 hll hli;go_wp2_with fail
 refine HLN.out.mono ?_;rintro e w2⟨rfl,rfl⟩;go_wp2_with fail
 refine HU.out.mono ?_;rintro e w3⟨rfl,hh⟩;have HH2:=hid hh;clear hh;go_wp2;go_end0
 exact⟨rfl,w2,kb,c,HQ.out,HH2.out⟩
theorem zL{arr:List K}{k:K}(h:k∈arr):arr[arr.idxOf k]? = some k:=by
 have hl:=List.idxOf_lt_length_iff.2 h;rw[List.getElem?_eq_getElem hl,List.getElem_idxOf hl]
theorem sQ{arr:List K}{k:K}(h:k∈arr):kA arr k=(arr.idxOf k:Nat):=by simp[kA,h]
theorem Jt{arr:List K}(hn:arr.Nodup){i:Nat}{k:K}(h:arr[i]? = some k):kA arr k=(i:Nat):=by
 have hm:=List.mem_of_getElem? h;rw[sQ hm];have h2:=zL hm;obtain⟨a,b⟩:=List.getElem?_eq_some_iff.1 h;obtain⟨c,d⟩:=List.getElem?_eq_some_iff.1 h2;have:=(List.getElem_inj hn).1 (d.trans b.symm)
 omega
theorem ENGp.hpx{st:St V}{L:aM}{lp:Option K}{bs:Nat}{fm q sm bg kv:Value}{arr:List K}{w:World}(h:ENGp st L lp bs fm q sm bg kv arr w)(hne:arr ≠ []):∃kb c,kv = .slice (some ⟨kb,0,none⟩) arr.length c/\o9 bs kb c L (bH st) arr w/\∃cur,w.heap[kb]? = some (.cells cur 94):=by
 have hpos:0<arr.length:=List.length_pos_iff.2 hne;obtain⟨how,hin⟩:=h.kv;obtain⟨hl,⟨h1,h0⟩|⟨g,cap,cur,h1,h2,h3,h4⟩⟩:=id how
 . omega
 subst h1;have hsl:∀k∈arr,∃m lk vs,st.sl k=some m/\SB w (L.bk k) (TB k) (aX bs k m (decide (lp=some k)) lk (kA arr k) vs):=fun k hk=>by
  obtain⟨m,hm⟩:=Option.ne_none_iff_exists'.1 (h.ex k hk);obtain⟨lk,vs,a,_⟩:=(h.cell k m hm).ex;exact⟨m,lk,vs,hm,a⟩
 refine⟨g,cap,rfl,⟨aA (i:=5) h.s,how,fun i k hi=>?_,h.nd,fun j hj k hk e=>h.bk_inj (h.ex j hj) (h.ex k hk) e,fun k hk=>?_,fun e=>?_,by have:=h.perm.length_eq;have:=h.kl;omega⟩,cur,h3⟩
 . have hk:=List.mem_of_getElem? hi
   obtain⟨m,lk,vs,hm,a⟩:=hsl k hk;refine⟨_,_,a,?_,?_⟩
   . rw[Jt h.nd hi];rfl
   . simp[aX,bH,hm]
 . obtain⟨m,lk,vs,hm,a⟩:=hsl k hk
   have hT:=fU (k:=k);constructor
   . intro e
     rw[SB,e,h3] at a;injection a with a;injection a with _ a;exact hT.2.2.2 a.symm
   . intro e
     rw[SB,e,h.s] at a;injection a with a;injection a with _ a;exact hT.1 a.symm
 . rw[e,h.s] at h3
   injection h3 with h3;injection h3 with _ h3;exact absurd h3 (by decide)
theorem ENGp.heaped{st:St V}{L:aM}{lp:Option K}{bs kb c:Nat}{u:K->Nat}{fm q sm bg:Value}{arr arr':List K}{w w':World}(h:ENGp st L lp bs fm q sm bg (.slice (some ⟨kb,0,none⟩) arr.length c) arr w)(ht:HT bs kb c L u arr w arr' w'):ENGp st L lp bs fm q sm bg (.slice (some ⟨kb,0,none⟩) arr'.length c) arr' w':=by
 have hlen:=ht.perm.length_eq;obtain⟨how,hin⟩:=h.kv;have hkb:L.own kb:=hin kb rfl;obtain⟨hl,⟨h1,h0⟩|⟨g,cap,cur,h1,h2,h3,h4⟩⟩:=id how
 . simp at h1
 simp only[Value.slice.injEq,Option.some.injEq,Addr.mk.injEq,true_and,and_true] at h1;obtain⟨rfl,rfl⟩:=h1;have hne:=fun k (hk:k∈arr)=>ht.hp.ne k (ht.perm.mem_iff.2 hk);have hsl:∀k,st.sl k≠none->∃xs,SB w (L.bk k) (TB k) xs:=fun k hk=>by
  obtain⟨m,hm⟩:=Option.ne_none_iff_exists'.1 hk;obtain⟨lk,vs,a,_⟩:=(h.cell k m hm).ex;exact⟨_,a⟩
 have hfar:∀(b:Nat) (o:Obj),w.heap[b]? = some o->b≠kb->(∀k∈arr,b≠L.bk k)->w'.heap[b]? = some o:=fun b o hb h1 h2=>(ht.pf.far b (aB hb) h1 h2).trans hb;have hcs:∀(b:Nat) (cs:Array Value) (T:TypeId),w.heap[b]? = some (.cells cs T)->T≠94->(∀k,T≠TB k)->w'.heap[b]? = some (.cells cs T):=fun b cs T hb h1 h2=>by
  refine hfar b _ hb (fun e=>?_) fun k hk e=>?_
  . rw[e,h3] at hb;injection hb with hb;injection hb with _ hb;exact h1 hb.symm
  . obtain⟨xs,hx⟩:=hsl k (h.ex k hk)
    rw[e,hx] at hb;injection hb with hb;injection hb with _ hb;exact h2 k hb.symm
 have hmp:∀(b:Nat) (es:Array MapEntry) (n:Nat),w.heap[b]? = some (.map es n)->w'.heap[b]? = some (.map es n):=fun b es n hb=>by
  refine hfar b _ hb (fun e=>?_) fun k hk e=>?_
  . rw[e,h3] at hb;injection hb with hb;cases hb
  . obtain⟨xs,hx⟩:=hsl k (h.ex k hk)
    rw[e,hx] at hb;injection hb with hb;cases hb
 have hout:∀(b:Nat) (o:Obj),¬L.own b->w.heap[b]? = some o->w'.heap[b]? = some o:=fun b o hn hb=>by
  refine hfar b _ hb (fun e=>hn (e ▸ hkb)) fun k hk e=>?_;obtain⟨m,hm⟩:=Option.ne_none_iff_exists'.1 (h.ex k hk);exact hn (e ▸ (h.cell k m hm).own)
 have hS:w'.heap[bs]? = some (.cells #[fm,.int .i64 st.rev,q,sm,bg,.slice (some ⟨kb,0,none⟩) arr'.length c,.int .u64 st.uses] 66):=by
  rw[hlen];exact hfar bs _ h.s (Ne.symm ht.hp.kbs) fun k hk e=>(hne k hk).2 e.symm
 refine⟨hS,h.bo,fun b hb=>Nat.lt_of_lt_of_le (h.olt b hb) ht.pf.size,h.sr.keep hmp,fun f c hf=>⟨(h.srb f c hf).1,hcs _ _ _ (h.srb f c hf).2 (by decide) fun k=>(fU (k:=k)).2.1.symm⟩,h.sri,h.qm,h.sm.keep hmp,h.bg.keep fun b cs hb=>hcs b cs _ hb (by decide) fun k=>(fU (k:=k)).2.2.1.symm,⟨ht.hp.own,fun g hg=>hin g hg⟩,ht.perm.trans h.perm,ht.hp.nd,h.kl,fun k hk=>h.ex k (ht.perm.mem_iff.1 hk),fun j n hj=>?_⟩;have hc:=h.cell j n hj;obtain⟨lk,vs,a,d⟩:=hc.ex;refine⟨⟨lk,vs,?_,d.keep hout⟩,hc.own⟩;by_cases hja:j∈arr
 . have hja':=ht.perm.mem_iff.2 hja
   obtain⟨x,hx⟩:=ht.pf.slot j hja _ _ a;have hi:=zL hja';obtain⟨T,xs,s1,s2,_⟩:=ht.hp.pl _ j hi;have e:=hx.symm.trans s1;injection e with e;injection e with e1 e2 _;injection e1 with e1;rw[<-e1] at s2;have hx10:x = .int .i64 (arr'.idxOf j:Nat):=by
    have h10:10<(aX bs j n (decide (lp=some j)) lk (kA arr j) vs).length:=by simp[aX]
    rw[List.getElem?_set_self h10] at s2;exact Option.some.inj s2
   rw[hx10] at hx;rw[sQ hja'];exact hx
 . have hja':¬j∈arr':=fun e=>hja (ht.perm.mem_iff.1 e)
   have:kA arr' j=kA arr j:=by simp[kA,hja,hja']
   rw[this];refine hfar _ _ a (fun e=>?_) fun k hk e=>hja ?_
   . have:=a;rw[SB,e,h3] at this;injection this with this;injection this with _ this;exact (fU (k:=j)).2.2.2 this.symm
   . have:=h.bk_inj (by rw[hj];simp) (h.ex k hk) e
     rw[this];exact hk
end Go.Proofs.YthibodlojlkppaaGreatDoor

/-
  Looks: is a slot among them. Fetch. workOut keeps to the model, of any kind. Within a work: how things stand. A tree's box beside the engine. Fetch, of a text.
-/
import Derived.Test.YthibodlojlkppaaGreatDoorB14
import Derived.Test.YthibodlojlkppaaGreatDoorB15
import Derived.Test.YthibodlojlkppaaGreatDoorB16
import Derived.LaidEql
set_option linter.unusedVariables false
set_option linter.unusedSectionVars false
set_option linter.unusedSimpArgs false
set_option maxRecDepth 100000
set_option maxHeartbeats 40000000

namespace Go.Proofs.YthibodlojlkppaaGreatDoor
open Go.RowKit
variable [DecidableEq K] [LawfulBEq Lk]
structure PtrT (T:TypeId):Prop where
 e:∃ te i j,Tryz.prog.underlying T=some (.pointer te)∧Tryz.prog.info? T=some i∧i.comparable=true∧Tryz.prog.info? te=some j∧j.size≠0
theorem ptrT_of {T te:TypeId} {n:Nat} (h:Tryz.prog.underlying T=some (.pointer te)) (h1:(Tryz.prog.info? T).map (·.comparable)=some true) (h2:(Tryz.prog.info? te).map (·.size)=some n) (hn:n≠0):PtrT T:=by
 obtain ⟨i,e1,e2⟩:=Option.map_eq_some_iff.1 h1
 obtain ⟨j,e3,e4⟩:=Option.map_eq_some_iff.1 h2
 exact ⟨te,i,j,h,e1,e2,e3,by omega⟩
theorem ptrT_S:PtrT 165:=ptrT_of (te:=175) (by kernel_rfl) (by kernel_rfl) (n:=16) (by kernel_rfl) (by decide)
theorem ptrT_T:PtrT 178:=ptrT_of (te:=181) (by kernel_rfl) (by kernel_rfl) (n:=16) (by kernel_rfl) (by decide)
theorem ptrT_X:PtrT 189:=ptrT_of (te:=192) (by kernel_rfl) (by kernel_rfl) (n:=16) (by kernel_rfl) (by decide)
theorem ptrT_R:PtrT 184:=ptrT_of (te:=187) (by kernel_rfl) (by kernel_rfl) (n:=18) (by kernel_rfl) (by decide)
theorem ptrT_TI (k:K):PtrT (TI k):=by
 unfold TI
 repeat' split
 · exact ptrT_T
 · exact ptrT_R
 · exact ptrT_X
 · exact ptrT_S
theorem ifLooked:∃ ms,Tryz.prog.underlying 169=some (.interface ms):=⟨_,Tryz.underlying169⟩
theorem eqIface {w:World} {T1 T2:TypeId} (h1:PtrT T1) {b1 b2:Nat} {c1 c2:Array Value} {t1 t2:TypeId} (hb1:w.heap[b1]? = some (.cells c1 t1)) (hb2:w.heap[b2]? = some (.cells c2 t2)) :
 (binOp .eql 169 (.iface T1 (ptr b1)) (.iface T2 (ptr b2))).run Tryz.prog w = .ok (.bool (decide (T1=T2∧b1=b2))) w:=by
 obtain ⟨ms,hi⟩:=ifLooked
 obtain ⟨te,i,j,a1,a2,a3,a4,a5⟩:=h1
 by_cases hT:T1=T2
 · subst hT
   by_cases hb:b1=b2
   · subst hb
     simp only [and_self,decide_true]
     exact run_eql_iface_ptr_same w _ hi a1 a2 a3 a4
   · simp only [hb,and_false,decide_false]
     exact run_eql_iface_ptr_other w hi a1 a2 a3 a4 a5 (by simp [hb]) hb1 hb2
 · simp only [hT,false_and,decide_false]
   simp only [binOp]
   have hd:∀ d:Nat,(Op.equalIn (d+1) 169 (.iface T1 (ptr b1)) (.iface T2 (ptr b2))).run Tryz.prog w = .ok false w:=fun d=>by simp [Op.equalIn,run_underlying hi,hT]
   simp [Op.equal,Op.maxDepth,hd 9999]
theorem eqLk {st:St V} {L:Lay} {lp:Option K} {bs:Nat} {fm:Value} {w:World} (h:ENG st L lp bs fm w) {k:K} (hk:st.sl k≠none) {l:Lk} (hl:match l with | .inl f=>st.src f≠none | .inr j=>st.sl j≠none) :
 (binOp .eql 169 (slotV L k) (lkV L l)).run Tryz.prog w = .ok (.bool (decide (l = .slot k))) w:=by
 obtain ⟨m,hm⟩:=Option.ne_none_iff_exists'.1 hk
 obtain ⟨x,pl,vs,sb,_⟩:=h.sl hm
 obtain ⟨q,sm,bg,kv,arr,hx⟩:=h
 cases l with
 | inl f =>
  obtain ⟨c,hc⟩:=Option.ne_none_iff_exists'.1 hl
  have:=eqIface (T2:=163) (ptrT_TI k) sb (hx.srb f c hc).2
  simp only [lkV,slotV]
  rw [this]
  have hT:TI k≠163:=by
   unfold TI
   repeat' split
   all_goals decide
  simp [hT]
 | inr j =>
  obtain ⟨mj,hmj⟩:=Option.ne_none_iff_exists'.1 hl
  obtain ⟨xj,vsj,sbj,_⟩:=(hx.cell j mj hmj).ex
  have:=eqIface (T2:=TI j) (ptrT_TI k) sb sbj
  simp only [lkV,slotV]
  rw [this]
  have hd:decide (TI k=TI j∧L.bk k=L.bk j)=decide (Lk.slot j=Lk.slot k):=by
   by_cases hjk:j=k
   · subst hjk;simp
   · have:¬ (L.bk k=L.bk j):=fun e=>hjk (hx.bk_inj hl hk e.symm)
     simp [this,hjk]
  rw [hd]
theorem indexG {w:World} {B n:Nat} {v:Value} {xs:List Value} {T:TypeId} {p:Nat} (hn2:n≤1099511627776) (hown:w.ownsRow B 169 1 v n xs) (k:Nat) (hk:k≤n)
 (heq:∀ (i:Nat),i < n→i≤k→∃ x,xs[i]? = some x∧∀ m,(binOp .eql 169 (.iface T (.pointer (some ⟨p,0,none⟩))) x).run Tryz.prog (w.drewN m) = .ok (.bool (decide (i=k))) (w.drewN m)) :
 Calls Tryz.prog 116 #[v, .iface T (.pointer (some ⟨p,0,none⟩))] w fun e w'=>e = .returned (.int .i64 (if k < n then (k:Int) else -1))∧∃ m,w'=w.drewN m:=by
 obtain ⟨la,lc,rfl⟩:∃ a c,v = .slice a n c:=by
  obtain ⟨_,⟨h1,h0⟩ | ⟨g,c,_,h1,_⟩⟩:=hown
  · exact ⟨none,0,by rw [h1,h0]⟩
  · exact ⟨_,_,h1⟩
 have hcell:∀ i,i < n→i≤k→∃ g x,la=some ⟨g,0,none⟩∧xs[i]? = some x∧w.cell? ⟨g,i,none⟩=some x:=fun i hi hik=>by
  obtain ⟨x,hx,_⟩:=heq i hi hik
  obtain ⟨_,⟨h1,h0⟩ | ⟨g,c,cur,h1,h2,h3⟩⟩:=id hown
  · omega
  · simp only [Value.slice.injEq] at h1
    obtain ⟨rfl,_,rfl⟩:=h1
    refine ⟨g,x,rfl,hx,?_⟩
    rw [hown.cellAt i (by omega),hx]
 have HC:=hid hcell
 have HEQ:=hid heq
 clear hown heq hcell
 obtain ⟨r,hr⟩:∃ r:Int,r=if k < n then (k:Int) else -1:=⟨_,rfl⟩
 rw [←hr]
 have HR:=hid hr
 clear hr
 go_enter Tryz.func116,Tryz.ntmps116
 go_wp2
 go_loopg [8] n (fun g vi wr => ∃ (i m:Nat),g+i=n∧vi = .int .i64 (i:Nat)∧wr=w.drewN m∧i≤k)
 case atStart=>exact ⟨0,0,by omega,rfl,rfl,Nat.zero_le _⟩
 case round =>
  obtain ⟨i,m,hg,rfl,hwr,hik⟩:=hrel
  have hi0:(0:Int)≤(i:Int):=by omega
  by_cases hi:i < n
  · have hil:(i:Int) < (n:Int):=by omega
    obtain ⟨ga,x,rfl,hx,hc⟩:=HC.out i hi hik
    obtain ⟨x2,hx2,hq⟩:=HEQ.out i hi hik
    rw [hx] at hx2
    cases hx2
    have hc2:wr.cell? ⟨ga,i,none⟩=some x:=by rw [hwr];exact hc
    have hq2:=hq m
    rw [←hwr] at hq2
    have hq3:(binOp .eql 169 (.iface T (.pointer (some ⟨p,0,none⟩))) x).run Tryz.prog wr.drew = .ok (.bool (decide (i=k))) wr.drew:=by rw [hwr];exact hq (m+1)
    have HWR:=hid hwr
    clear hwr hq hc
    by_cases hkk:i=k
    · have hd:decide (i=k)=true:=by simp [hkk]
      rw [hd] at hq2 hq3
      have HKK:=hid hkk
      clear hd hkk
      go_wp2
      go_ret
      refine ⟨?_,m,HWR.out⟩
      have h1:=HR.out
      have h2:=HKK.out
      rw [if_pos (by omega)] at h1
      rw [h1,h2]
      rfl
    · have hd:decide (i=k)=false:=by simp [hkk]
      rw [hd] at hq2 hq3
      have HKK:=hid hkk
      clear hd hkk
      go_wp2
      have HG:=hid hg
      go_roundg (n - (i+1))
      all_goals first
       | (have:=HG.out;omega)
       | exact ⟨i+1,m,by omega,by go_num,HWR.out,by have:=HKK.out;omega⟩
  · have hil:¬ ((i:Int) < (n:Int)):=by omega
    have HWR:=hid hwr
    clear hwr
    go_wp2
    go_ret
    refine ⟨?_,m,HWR.out⟩
    have h1:=HR.out
    rw [if_neg (by omega)] at h1
    rw [h1]
    rfl
theorem containsG {w:World} {B n:Nat} {v:Value} {xs:List Value} {T:TypeId} {p:Nat} (hn2:n≤1099511627776) (hown:w.ownsRow B 169 1 v n xs) (k:Nat) (hk:k≤n)
 (heq:∀ (i:Nat),i < n→i≤k→∃ x,xs[i]? = some x∧∀ m,(binOp .eql 169 (.iface T (.pointer (some ⟨p,0,none⟩))) x).run Tryz.prog (w.drewN m) = .ok (.bool (decide (i=k))) (w.drewN m)) :
 Calls Tryz.prog 86 #[v, .iface T (.pointer (some ⟨p,0,none⟩))] w fun e w'=>e = .returned (.bool (decide (k < n)))∧∃ m,w'=w.drewN m:=by
 have HX:=hid (indexG hn2 hown k hk heq)
 clear hown heq
 by_cases hkn:k < n
 · have hd:decide (k < n)=true:=by simp [hkn]
   rw [hd]
   rw [if_pos hkn] at HX
   have hk0:(0:Int)≤(k:Int):=by omega
   clear hd hkn
   go_enter Tryz.func86,Tryz.ntmps86
   go_wp2_with fail
   refine HX.out.mono ?_
   rintro e w1 ⟨rfl,m,hm⟩
   have HM:=hid hm
   clear hm
   go_wp2
   go_ret
   exact ⟨rfl,m,HM.out⟩
 · have hd:decide (k < n)=false:=by simp [hkn]
   rw [hd]
   rw [if_neg hkn] at HX
   clear hd hkn
   go_enter Tryz.func86,Tryz.ntmps86
   go_wp2_with fail
   refine HX.out.mono ?_
   rintro e w1 ⟨rfl,m,hm⟩
   have HM:=hid hm
   clear hm
   go_wp2
   go_ret
   exact ⟨rfl,m,HM.out⟩
theorem LKS.next {st st1:St V} {L L1:Lay} {bs lb B:Nat} {lk:List Lk} {w w1:World} (h:LKS st L bs lb B lk w) (hN:Next st st1 L L1 w w1):LKS st1 L1 bs lb B lk w1:=by
 obtain ⟨lv,hb,ho,hn⟩:=h.blk
 have hm:lk.map (lkV L1)=lk.map (lkV L):=List.map_congr_left fun l hl=>hN.lkV (h.ex l hl)
 refine ⟨⟨lv,(hN.blk hb h.nb).1,by rw [hm];exact own_far ho fun g hg=>hN.fr.block g (ho.lt g hg).2 (hn g hg),fun g hg e => ?_⟩,(hN.blk hb h.nb).2,Nat.le_trans h.ge hN.fr.size,fun l hl => ?_,h.len⟩
 · rcases hN.own g e with h1 | h1
   · exact hn g hg h1
   · have:=(ho.lt g hg).2;omega
 · have:=h.ex l hl
   cases l with
   | inl f=>exact (hN.sb f this).1
   | inr j=>exact (hN.bk j this).1
theorem contLk {st:St V} {L:Lay} {lp:Option K} {bs lb B:Nat} {fm:Value} {lk:List Lk} {w:World} (hE:ENG st L lp bs fm w) (hK:LKS st L bs lb B lk w) {k:K} (hk:st.sl k≠none) {lv:Value} (hb:w.heap[lb]? = some (.cells #[.pointer (some ⟨bs,1,none⟩),lv] 109)) :
 Calls Tryz.prog 86 #[lv,slotV L k] w fun e w'=>e = .returned (.bool (decide (Lk.slot k∈lk)))∧∃ m,w'=w.drewN m:=by
 obtain ⟨lv0,hb0,ho,hn⟩:=hK.blk
 have hv:lv=lv0:=by
  rw [hb] at hb0;injection hb0 with hb0;injection hb0 with hb0 _
  simpa using hb0
 subst hv
 have hlen:=hK.len
 unfold BIG at hlen
 have hle:lk.idxOf (Lk.slot k)≤lk.length:=List.idxOf_le_length
 have hd:decide (Lk.slot k∈lk)=decide (lk.idxOf (Lk.slot k) < lk.length):=by
  by_cases h:Lk.slot k∈lk
  · have:=List.idxOf_lt_length_iff.2 h
    simp [h,this]
  · have:¬ lk.idxOf (Lk.slot k) < lk.length:=fun e=>h (List.idxOf_lt_length_iff.1 e)
    simp [h,this]
 rw [hd]
 refine containsG (T:=TI k) (p:=L.bk k) hlen ho _ hle fun i hi hik => ?_
 have hget:lk[i]? = some lk[i]:=List.getElem?_eq_getElem hi
 refine ⟨lkV L lk[i],by rw [List.getElem?_map,hget];rfl,fun m => ?_⟩
 have hex:=hK.ex lk[i] (List.getElem_mem hi)
 have:=eqLk (hE.below (below_drewN w m)) hk hex
 rw [show (Value.iface (TI k) (.pointer (some ⟨L.bk k,0,none⟩)))=slotV L k from rfl,this]
 have hd2:decide (lk[i]=Lk.slot k)=decide (i=lk.idxOf (Lk.slot k)):=by
  by_cases hx:lk[i]=Lk.slot k
  · have h1:lk.idxOf (Lk.slot k)≤i:=by
     rcases Nat.lt_or_ge i (lk.idxOf (Lk.slot k)) with h2 | h2
     · have h3:=List.not_of_lt_findIdx h2
       rw [hx] at h3
       simp at h3
     · exact h2
    have:i=lk.idxOf (Lk.slot k):=by omega
    simp [hx,←this]
  · have:i≠lk.idxOf (Lk.slot k):=fun e=>hx (by
     have h2:lk.idxOf (Lk.slot k) < lk.length:=by omega
     have h3:=List.getElem_idxOf h2
     simp only [←e] at h3
     exact h3)
    simp [hx,this]
 rw [hd2]
structure FE (B:Nat) (st st1:St V) (L L1:Lay) (bs lb:Nat) (fm:Value) (lk:List Lk) (w w1:World):Prop where
 e:ENG st1 L1 none bs fm w1
 k:LKS st1 L1 bs lb B lk w1
 n:WNext lb B st st1 L L1 w w1
 g:B≤w.heap.size
 f:∀ (b:Nat) (cs:Array Value) (T:TypeId),T≠169→b≠lb→¬ L.own b→w.heap[b]? = some (.cells cs T)→w1.heap[b]? = some (.cells cs T)∧¬ L1.own b
theorem FE.val {B:Nat} {st st1:St V} {L L1:Lay} {bs lb:Nat} {fm:Value} {lk:List Lk} {w w1:World} (h:FE B st st1 L L1 bs lb fm lk w w1) {k:K} {v:V} (hv:st1.val k=some v):∃ m x pl vs,m.val=some v∧SB w1 (L1.bk k) (TB k) (slotC bs k m false x pl vs)∧ValC L1.own w1 k.kind (some v) vs:=by
 cases hs:st1.sl k with
 | none=>simp [St.val,hs] at hv
 | some m =>
  have hm:m.val=some v:=by simpa [St.val,hs] using hv
  obtain ⟨x,pl,vs,sb,hc,_⟩:=h.e.sl hs
  exact ⟨m,x,pl,vs,hm,by simpa using sb,by rw [hm] at hc;exact hc⟩
def Way (E:Eng V) (nc:Bool) (k:K) (lk:List Lk) (st:St V) (out:Out (V × List Lk)) (st':St V):Prop :=
 (∃ v:V,Lk.slot k∈lk∧(st.find k).val k=some v ∧ .ok (v,lk)=out∧st.find k=st') ∨
 (∃ (v:V) (a:Unit) (st2:St V),Lk.slot k ∉ lk∧E k (st.find k)=some (.ok a,st2)∧lk.length < BIG∧st2.val k=some v ∧ .ok (v,lk ++ [.slot k])=out∧st2=st') ∨
 ∃ (c:K) (st2:St V),Lk.slot k ∉ lk∧E k (st.find k)=some (.error c,st2)∧k.kind=7 ∧ .error c=out∧st2=st'
theorem way_of {E:Eng V} {nc:Bool} {k:K} {lk:List Lk} {st st':St V} {out:Out (V × List Lk)} (h:fetC E nc k lk st=some (out,st')):Way E nc k lk st out st':=by
 unfold fetC at h
 split at h
 · cases h
 split at h
 · rename_i hm
   obtain ⟨v,hv,e⟩:=Option.map_eq_some_iff.1 h
   cases e
   exact .inl ⟨v,hm,hv,rfl,rfl⟩
 · rename_i hm
   split at h
   · rename_i a st2 he
     split at h
     · rename_i hl
       obtain ⟨v,hv,e⟩:=Option.map_eq_some_iff.1 h
       cases e
       exact .inr (.inl ⟨v,a,_,hm,he,hl,hv,rfl,rfl⟩)
     · cases h
   · rename_i c st2 he
     split at h
     · cases h
     · rename_i h7
       cases h
       exact .inr (.inr ⟨c,_,hm,he,by cases nc <;> simp_all,rfl,rfl⟩)
   · cases h
theorem find_sl (st:St V) (k:K):(st.find k).sl k≠none:=by
 by_cases h:st.sl k=none
 · rw [find_new h];simp [St.put]
 · rw [find_old h];exact h
def FinC (p:Nat) (k:K) (bs lb:Nat) (O:Nat→Prop) (w0:World) (P:Ending→World→Prop) (w:World):Prop:=∃ m x pl vs,SB w p (TB k) (slotC bs k m false x pl vs)∧ValC (fun _=>False) w k.kind none vs∧P (.returned (valV k.kind vs)) w∧∀ (b:Nat) (cs:Array Value) (T:TypeId),T≠169→b≠lb→¬ O b→w0.heap[b]? = some (.cells cs T)→w.heap[b]? = some (.cells cs T)
theorem none_any {O O':Nat→Prop} {w w':World} {kind:Nat} {vs:List Value} (h:ValC O w kind none vs):ValC O' w' kind none vs:=h
theorem FE.fin {B:Nat} {st st1:St V} {L L1:Lay} {bs lb:Nat} {fm:Value} {lk:List Lk} {w w1:World} (h:FE B st st1 L L1 bs lb fm lk w w1) {k:K} {v:V} (hv:st1.val k=some v):FinC (L1.bk k) k bs lb L.own w (WkPost B st L bs lb fm k.kind (.ok (v,lk)) st1 w) w1:=by
 obtain ⟨m,x,pl,vs,_,sb,hc⟩:=h.val hv
 exact ⟨m,x,pl,vs,sb,none_any (valC_shape hc),⟨L1,h.n,⟨vs,rfl,hc⟩,h.k,h.e⟩,fun b cs T a1 a2 a3 a4=>(h.f b cs T a1 a2 a3 a4).1⟩
theorem LKS.below {st:St V} {L:Lay} {bs lb B:Nat} {lk:List Lk} {w w1:World} (h:LKS st L bs lb B lk w) (hb:Below w.heap.size w w1):LKS st L bs lb B lk w1:=h.next ((Next.refl st L w).below hb)
theorem FE.below {B:Nat} {st st1:St V} {L L1:Lay} {bs lb:Nat} {fm:Value} {lk:List Lk} {w w1 w2:World} (h:FE B st st1 L L1 bs lb fm lk w w1) (hb:Below w1.heap.size w1 w2):FE B st st1 L L1 bs lb fm lk w w2:=⟨h.e.below hb,h.k.below hb,h.n.below hb,h.g,fun b cs T a1 a2 a3 a4=>let ⟨x,y⟩:=h.f b cs T a1 a2 a3 a4;⟨below_heap hb (heap_lt x) x,y⟩⟩
def FX (W0:World) (B:Nat) (st st1:St V) (L:Lay) (bs lb:Nat) (fm:Value) (lk:List Lk) (k:K) (p:Nat) (lv:Value) (w w1:World):Prop:=∃ L1,FE B st st1 L L1 bs lb fm lk w w1∧FM W0 st.files L1 fm w1∧L1.bk k=p∧w1.heap[lb]? = some (.cells #[.pointer (some ⟨bs,1,none⟩),lv] 109)
theorem fe_old {W0:World} {B:Nat} {st:St V} {L:Lay} {bs lb p:Nat} {fm lv:Value} {lk:List Lk} {k:K} {w w1:World} {v:V} (h:FX W0 B st (st.find k) L bs lb fm lk k p lv w w1) (hin:Lk.slot k∈lk) (hv:(st.find k).val k=some v) :
 Calls Tryz.prog 86 #[lv, .iface (TI k) (.pointer (some ⟨p,0,none⟩))] w1 fun e w2=>e = .returned (.bool true)∧FinC p k bs lb L.own w (WkPost B st L bs lb fm k.kind (.ok (v,lk)) (st.find k) w) w2:=by
 obtain ⟨L1,hF,hFM,rfl,hb⟩:=h
 refine (contLk hF.e hF.k (find_sl st k) hb).mono ?_
 rintro e w2 ⟨rfl,m,rfl⟩
 exact ⟨by simp [hin],(hF.below (below_drewN w1 m)).fin hv⟩
theorem fe_new {W0:World} {E:Eng V} {B:Nat} {st st2:St V} {L:Lay} {bs lb p:Nat} {fm lv:Value} {lk:List Lk} {k:K} {w w1:World} {v:V} {a:Unit} (hS:SetC W0 E bs fm) (h:FX W0 B st (st.find k) L bs lb fm lk k p lv w w1) (hin:Lk.slot k ∉ lk) (he:E k (st.find k)=some (.ok a,st2)) (hl:lk.length < BIG) (hv:st2.val k=some v) :
 Calls Tryz.prog 86 #[lv, .iface (TI k) (.pointer (some ⟨p,0,none⟩))] w1 fun e w2=>e = .returned (.bool false) ∧
  Hid (Calls Tryz.prog 87 #[.iface (TI k) (.pointer (some ⟨p,0,none⟩)), .bool true] w2 fun e w3=>e = .returned (.tuple #[]) ∧
   Hid (Calls Tryz.prog 88 #[.pointer (some ⟨lb,0,none⟩), .iface (TI k) (.pointer (some ⟨p,0,none⟩))] w3 fun e w4=>e = .returned (.tuple #[]) ∧
    FinC p k bs lb L.own w (WkPost B st L bs lb fm k.kind (.ok (v,lk ++ [.slot k])) st2 w) w4)):=by
 obtain ⟨L1,hF,hFM,rfl,hb⟩:=h
 refine (contLk hF.e hF.k (find_sl st k) hb).mono ?_
 rintro e w2 ⟨rfl,m,rfl⟩
 refine ⟨by simp [hin],hid ?_⟩
 have hF2:=hF.below (below_drewN w1 m)
 refine (hS _ _ _ _ _ _ hF2.e (by rw [fil_find];exact hFM.below (below_drewN w1 m)) (find_sl st k) he).mono ?_
 rintro e w3 ⟨L3,hN3,rfl,hE3⟩
 refine ⟨rfl,hid ?_⟩
 have hK3:=hF2.k.next hN3
 have hb3:L3.bk k=L1.bk k:=(hN3.bk k (find_sl st k)).2
 have hk3:st2.sl k≠none:=(hN3.bk k (find_sl st k)).1
 obtain ⟨lv3,hlb3,ho3,hn3⟩:=id hK3.blk
 obtain ⟨la,ln,hsh⟩:∃ a c,lv3 = .slice a lk.length c:=by
  obtain ⟨_,⟨h1,h0⟩ | ⟨g,c,_,h1,_⟩⟩:=ho3
  · exact ⟨none,0,by rw [h1,h0]⟩
  · exact ⟨_,_,h1⟩
 subst hsh
 have hlt3:=heap_lt hlb3
 have hne:(Value.slice la lk.length ln).ownBlock≠some lb:=fun e=>by
  obtain ⟨_,⟨e1,_⟩ | ⟨g,cap,cur,e1,_,e3,_⟩⟩:=ho3
  · rw [e1] at e;simp [Value.ownBlock] at e
  · rw [e1] at e;simp [Value.ownBlock] at e;subst e
    rw [hlb3] at e3;injection e3 with e3;injection e3 with _ e3;exact absurd e3 (by decide)
 have hadd:=addG (TI k) (L3.bk k) hlb3 ho3 (by unfold BIG at hl;exact hl) hK3.ge hne
 rw [hb3] at hadd
 refine hadd.mono ?_
 rintro e w4 ⟨rfl,hA⟩
 refine ⟨rfl,?_⟩
 have hlV:lkV L3 (.slot k) = .iface (TI k) (.pointer (some ⟨L1.bk k,0,none⟩)):=by simp only [lkV,slotV,hb3]
 rw [←hlV] at hA
 obtain ⟨a1,a2,a3,_⟩:=hK3.add hE3 hl hlb3 (l := .slot k) hk3 hA
 have hF4:FE B st st2 L L3 bs lb fm (lk ++ [.slot k]) w w4:=⟨a2,a1,(hF2.n.trans hN3.toW).trans a3,hF2.g,fun b cs T b1 b2 b3 b4=>by
  obtain ⟨x,y⟩:=hF2.f b cs T b1 b2 b3 b4
  obtain ⟨x3,y3⟩:=hN3.blk x y
  refine ⟨(hA.far b (heap_lt x3) b2 fun e => ?_).trans x3,y3⟩
  obtain ⟨_,⟨e1,_⟩ | ⟨g,cap,cur,e1,_,e3,_⟩⟩:=ho3
  · rw [e1] at e;simp [Value.ownBlock] at e
  · rw [e1] at e;simp [Value.ownBlock] at e;subst e
    rw [x3] at e3;injection e3 with e3;injection e3 with _ e3;exact b1 e3⟩
 have:=hF4.fin hv
 rwa [hb3] at this
theorem fe_cyc {W0:World} {E:Eng V} {B:Nat} {st st2:St V} {L:Lay} {bs lb p:Nat} {fm lv:Value} {lk:List Lk} {k c:K} {w w1:World} (hS:SetC W0 E bs fm) (h:FX W0 B st (st.find k) L bs lb fm lk k p lv w w1) (hin:Lk.slot k ∉ lk) (he:E k (st.find k)=some (.cyc c,st2)) :
 Calls Tryz.prog 86 #[lv, .iface (TI k) (.pointer (some ⟨p,0,none⟩))] w1 fun e w2=>e = .returned (.bool false) ∧
  Hid (Calls Tryz.prog 87 #[.iface (TI k) (.pointer (some ⟨p,0,none⟩)), .bool true] w2 fun e w3=>e = .panicked (cycP c) ∧
   Hid (WkPost B st L bs lb fm k.kind (.cyc c) st2 w (.panicked (cycP c)) w3)):=by
 obtain ⟨L1,hF,hFM,rfl,hb⟩:=h
 refine (contLk hF.e hF.k (find_sl st k) hb).mono ?_
 rintro e w2 ⟨rfl,m,rfl⟩
 refine ⟨by simp [hin],hid ?_⟩
 have hF2:=hF.below (below_drewN w1 m)
 refine (hS _ _ _ _ _ _ hF2.e (by rw [fil_find];exact hFM.below (below_drewN w1 m)) (find_sl st k) he).mono ?_
 rintro e w3 ⟨L3,hN3,rfl,h7,hE3⟩
 exact ⟨rfl,hid ⟨L3,hF2.n.trans hN3.toW,rfl,h7,hE3⟩⟩
theorem wo_split {wp:K→Prog V} {E:Eng V} {k:K} {st st':St V} {out:Out Unit} (h:Go.Proofs.YthibodlojlkppaaGreatDoor.workOut wp E k st=some (out,st')) :
 st.began.length < BIG∧((∃ v lk s1,run E (k.kind != 7) (wp k) [] { st with began:=st.began ++ [k] }=some (.ok (v,lk),s1)∧answer s1 k v=some st'∧out = .ok ()) ∨
  (∃ c,run E (k.kind != 7) (wp k) [] { st with began:=st.began ++ [k] }=some (.cyc c,st')∧out = .cyc c∧k.kind=7)):=by
 unfold Go.Proofs.YthibodlojlkppaaGreatDoor.workOut at h
 split at h
 · rename_i hb
   refine ⟨hb,?_⟩
   split at h
   · rename_i v lk s1 he
     obtain ⟨s,hs,e⟩:=Option.map_eq_some_iff.1 h
     cases e
     exact .inl ⟨v,lk,s1,he,hs,rfl⟩
   · rename_i c s1 he
     cases h
     refine .inr ⟨c,he,rfl,?_⟩
     cases h7:(k.kind != 7) with
     | false=>simpa using h7
     | true =>
      rw [h7] at he
      exact absurd he (run_nc (st:=st) _ _ _)
   · cases h
 · cases h
theorem WNext.lift {lb B:Nat} {st st':St V} {L L':Lay} {w wx w':World} (hb:Below w.heap.size w wx) (h:WNext lb B st st' L L' wx w'):WNext lb B st st' L L' w w' :=
 ⟨h.bk,h.sb,fun b hb2=>(h.own b hb2).imp id fun x=>Nat.le_trans hb.size x,(FR.of_below hb).trans h.fr fun i hi=>by
  by_cases hlt:i < w.heap.size
  · left
    rcases hi with h1 | h1 | ⟨h1,cs,hc⟩
    · exact .inl h1
    · exact .inr (.inl h1)
    · exact .inr (.inr ⟨h1,cs,by rw [←hb.block i hlt];exact hc⟩)
  · exact .inr (by omega)⟩
theorem WkPost.lift {lb B bs kind:Nat} {st st':St V} {L:Lay} {fm:Value} {out:Out (V × List Lk)} {w wx w':World} {e:Ending} (hb:Below w.heap.size w wx) (h:WkPost B st L bs lb fm kind out st' wx e w'):WkPost B st L bs lb fm kind out st' w e w':=by
 obtain ⟨L',hN,h⟩:=h
 exact ⟨L',hN.lift hb,h⟩
structure WS (W0:World) (B bs lb:Nat) (fm:Value) (st0:St V) (L0:Lay) (w0:World) (st:St V) (L:Lay) (lk:List Lk) (w:World):Prop where
 e:ENG st L none bs fm w
 k:LKS st L bs lb B lk w
 m:FM W0 st.files L fm w
 l0:W0.heap.size≤lb
 b0:W0.heap.size≤B
 n:WNext lb B st0 st L0 L w0 w
theorem WS.start {W0:World} {B bs lb:Nat} {fm:Value} {st:St V} {L:Lay} {w:World} (h:ENG st L none bs fm w) (hM:FM W0 st.files L fm w) {lk:List Lk} (hK:LKS st L bs lb B lk w) (h1:W0.heap.size≤lb) (h2:W0.heap.size≤B):WS W0 B bs lb fm st L w st L lk w:=⟨h,hK,hM,h1,h2,WNext.refl _ _ _ _ _⟩
theorem WS.below {W0:World} {B bs lb:Nat} {fm:Value} {st0 st:St V} {L0 L:Lay} {w0 w w':World} {lk:List Lk} (h:WS W0 B bs lb fm st0 L0 w0 st L lk w) (hb:Below w.heap.size w w'):WS W0 B bs lb fm st0 L0 w0 st L lk w':=⟨h.e.below hb,h.k.below hb,h.m.below hb,h.l0,h.b0,h.n.below hb⟩
def Mine (L:Lay) (lb:Nat) (b:Nat):Prop:=¬ L.own b∧b≠lb
theorem WS.mine {W0:World} {B bs lb:Nat} {fm:Value} {st0 st:St V} {L0 L:Lay} {w0 w:World} {lk:List Lk} (h:WS W0 B bs lb fm st0 L0 w0 st L lk w) {b:Nat} (hb:w.heap.size≤b):Mine L lb b:=by
 obtain ⟨q,sm,bg,kv,arr,hx⟩:=h.e
 obtain ⟨lv,hl,_⟩:=h.k.blk
 have:=heap_lt hl
 exact ⟨fun e=>by have:=hx.olt b e;omega,by omega⟩
theorem WNext.mine {lb B:Nat} {st st':St V} {L L':Lay} {w w':World} (h:WNext lb B st st' L L' w w') {b:Nat} {o:Obj} (hb:w.heap[b]? = some o) (hm:Mine L lb b) (h3:∀ cs,o ≠ .cells cs 169):w'.heap[b]? = some o∧Mine L' lb b :=
 ⟨(h.blk hb hm.1 hm.2 h3).1,(h.blk hb hm.1 hm.2 h3).2,hm.2⟩
theorem Row.wnext {lb B:Nat} {st st':St V} {L L':Lay} {w w':World} {T:TypeId} {v:Value} {n:Nat} {xs:List Value} (h:Row L.own w T v n xs) (hN:WNext lb B st st' L L' w w') {lv:Array Value} {T':TypeId} (hl:w.heap[lb]? = some (.cells lv T')) (h1:T≠T') (h2:T≠169):Row L'.own w' T v n xs:=by
 obtain ⟨ao,c,hv,hc,hg⟩:=h
 refine ⟨ao,c,hv,hc,fun hn => ?_⟩
 obtain ⟨g,cur,e1,e2,e3,e4⟩:=hg hn
 have hne:g≠lb:=fun e=>by
  rw [e,hl] at e3;injection e3 with e3;injection e3 with _ e3;exact h1 e3.symm
 obtain ⟨a,b⟩:=hN.blk e3 e2 hne (fun cs e=>by injection e with _ e;exact h2 e)
 exact ⟨g,cur,e1,b,a,e4⟩
def FtPost (W0:World) (B bs lb:Nat) (fm:Value) (st0:St V) (L0:Lay) (w0:World) (st:St V) (L:Lay) (w:World) (kind:Nat) (out:Out (V × List Lk)) (st':St V):Ending→World→Prop:=fun e w' =>
 ∃ L',WNext lb B st st' L L' w w'∧match out with
  | .ok (v,lk)=>(∃ vs,e = .returned (valV kind vs)∧ValC L'.own w' kind (some v) vs)∧WS W0 B bs lb fm st0 L0 w0 st' L' lk w'
  | .error c=>e = .panicked (cycP c)∧WNext lb B st0 st' L0 L' w0 w'∧c.kind=7∧ENG st' L' (some c) bs fm w'
theorem ft_of {W0:World} {B bs lb:Nat} {fm:Value} {st0 st:St V} {L0 L:Lay} {w0 w:World} {lk:List Lk} (h:WS W0 B bs lb fm st0 L0 w0 st L lk w) {kind:Nat} {out:Out (V × List Lk)} {st':St V} (hf:st'.files=st.files) {e:Ending} {w':World} (hp:WkPost B st L bs lb fm kind out st' w e w'):FtPost W0 B bs lb fm st0 L0 w0 st L w kind out st' e w':=by
 obtain ⟨L',hN,h2⟩:=hp
 refine ⟨L',hN,?_⟩
 cases out with
 | ok r =>
  obtain ⟨lv,hl,_⟩:=h.k.blk
  exact ⟨h2.1,h2.2.2,h2.2.1,by rw [hf];exact h.m.wnext hN hl h.l0 h.b0,h.l0,h.b0,h.n.trans hN⟩
 | error c=>exact ⟨h2.1,h.n.trans hN,h2.2⟩
theorem WS.done {W0:World} {B bs lb:Nat} {fm:Value} {st0 st:St V} {L0 L:Lay} {w0 w:World} {lk:List Lk} (h:WS W0 B bs lb fm st0 L0 w0 st L lk w) {kind:Nat} {v:V} {vs:List Value} (hv:ValC L.own w kind (some v) vs):WkPost B st0 L0 bs lb fm kind (.ok (v,lk)) st w0 (.returned (valV kind vs)) w :=
 ⟨L,h.n,⟨vs,rfl,hv⟩,h.k,h.e⟩
theorem WS.doneS {W0:World} {B bs lb:Nat} {fm:Value} {st0 st:St V} {L0 L:Lay} {w0 w:World} {lk:List Lk} (h:WS W0 B bs lb fm st0 L0 w0 st L lk w) {kind:Nat} (h2:kind≠2) (h3:kind≠3) (h4:kind≠4) (b:ByteArray):WkPost B st0 L0 bs lb fm kind (.ok (.s b,lk)) st w0 (.returned (.string b)) w:=by
 have:=h.done (kind:=kind) (v := .s b) (vs:=[.string b]) ⟨h2,h3,h4,rfl⟩
 rwa [show valV kind [.string b] = .string b by simp [valV,h3]] at this
section
variable {E:Eng V} {nc:Bool} {lk:List Lk} {st stE:St V} {out:Out (V × List Lk)}
theorem run_get {k:K} {c:V→Prog V} (h:run E nc (.get k c) lk st=some (out,stE)) :
 (∃ v lk' st',fetC E nc k lk st=some (.ok (v,lk'),st')∧run E nc (c v) lk' st'=some (out,stE))∨(∃ c',fetC E nc k lk st=some (.cyc c',stE)∧out = .cyc c'∧k.kind=7∧nc=false):=by
 unfold run at h
 split at h
 · rename_i v lk' st' he
   exact .inl ⟨v,lk',st',he,h⟩
 · rename_i c' st' he
   cases h
   refine .inr ⟨c',he,rfl,?_⟩
   unfold fetC at he
   split at he
   · cases he
   split at he
   · obtain ⟨_,_,e⟩:=Option.map_eq_some_iff.1 he
     cases e
   · split at he
     · split at he
       · obtain ⟨_,_,e⟩:=Option.map_eq_some_iff.1 he
         cases e
       · cases he
     · rename_i hs
       split at he
       · cases he
       · rename_i hh
         cases nc <;> simp_all
     · cases he
 · cases h
theorem run_getT {f:ByteArray} {c:List Tok→Prog V} (h:run E nc (getT f c) lk st=some (out,stE)):∃ l lk' st',fetC E nc ⟨2,f,nob⟩ lk st=some (.ok (.t l,lk'),st')∧run E nc (c l) lk' st'=some (out,stE):=by
 rcases run_get h with ⟨v,lk',st',h1,h2⟩ | ⟨_,_,_,h7,_⟩
 · rcases v with l | ⟨l0,b0⟩ | l0 | b0
   · exact ⟨l,lk',st',h1,h2⟩
   · cases h2
   · cases h2
   · cases h2
 · simp at h7
theorem run_getR {f:ByteArray} {c:List Itx→Option Nat→Prog V} (h:run E nc (getR f c) lk st=some (out,stE)):∃ its fl lk' st',fetC E nc ⟨3,f,nob⟩ lk st=some (.ok (.r its fl,lk'),st')∧run E nc (c its fl) lk' st'=some (out,stE):=by
 rcases run_get h with ⟨v,lk',st',h1,h2⟩ | ⟨_,_,_,h7,_⟩
 · rcases v with l0 | ⟨its,fl⟩ | l0 | b0
   · cases h2
   · exact ⟨its,fl,lk',st',h1,h2⟩
   · cases h2
   · cases h2
 · simp at h7
theorem run_getX {f:ByteArray} {c:List ByteArray→Prog V} (h:run E nc (getX f c) lk st=some (out,stE)):∃ l lk' st',fetC E nc ⟨4,f,nob⟩ lk st=some (.ok (.x l,lk'),st')∧run E nc (c l) lk' st'=some (out,stE):=by
 rcases run_get h with ⟨v,lk',st',h1,h2⟩ | ⟨_,_,_,h7,_⟩
 · rcases v with l0 | ⟨l0,b0⟩ | l | b0
   · cases h2
   · cases h2
   · exact ⟨l,lk',st',h1,h2⟩
   · cases h2
 · simp at h7
theorem run_getS {k:K} (hk:k.kind≠7) {c:ByteArray→Prog V} (h:run E nc (getS k c) lk st=some (out,stE)):∃ b lk' st',fetC E nc k lk st=some (.ok (.s b,lk'),st')∧run E nc (c b) lk' st'=some (out,stE):=by
 rcases run_get h with ⟨v,lk',st',h1,h2⟩ | ⟨_,_,_,h7,_⟩
 · rcases v with l0 | ⟨l0,b0⟩ | l0 | b
   · cases h2
   · cases h2
   · cases h2
   · exact ⟨b,lk',st',h1,h2⟩
 · exact absurd h7 hk
theorem run_getV {k:K} {c:ByteArray→Prog V} (h:run E nc (getS k c) lk st=some (out,stE)):(∃ b lk' st',fetC E nc k lk st=some (.ok (.s b,lk'),st')∧run E nc (c b) lk' st'=some (out,stE))∨(∃ c',fetC E nc k lk st=some (.cyc c',stE)∧out = .cyc c'∧nc=false):=by
 rcases run_get h with ⟨v,lk',st',h1,h2⟩ | ⟨c',h1,h2,_,h3⟩
 · rcases v with l0 | ⟨l0,b0⟩ | l0 | b
   · cases h2
   · cases h2
   · cases h2
   · exact .inl ⟨b,lk',st',h1,h2⟩
 · exact .inr ⟨c',h1,h2,h3⟩
theorem run_ret {v:V} (h:run E nc (.ret v) lk st=some (out,stE)):out = .ok (v,lk)∧stE=st:=by
 cases h;exact ⟨rfl,rfl⟩
theorem run_look {f:ByteArray} {c:Option ByteArray→Prog V} (h:run E nc (.look f c) lk st=some (out,stE)):lk.length < BIG∧f.size≤BIG∧run E nc (c (st.files f)) (lk ++ [.src f]) (st.source f)=some (out,stE):=by
 change run E nc ⟨.inr (.inr (.inl f)),c⟩ lk st=some (out,stE) at h
 simp only [run] at h
 split at h
 · rename_i hc;exact ⟨hc.1,hc.2,h⟩
 · cases h
end
theorem ValC.keepR {O:Nat→Prop} {w w':World} {kind:Nat} {x:Option V} {vs:List Value} (h:ValC O w kind x vs) (hk:∀ (b:Nat) (cs:Array Value) (T:TypeId),T≠87→w.heap[b]? = some (.cells cs T)→w'.heap[b]? = some (.cells cs T)):ValC O w' kind x vs:=by
 match x,h with
 | some (.inl l),⟨a,v,b,c⟩=>exact ⟨a,v,b,c.keepT fun b cs=>hk b cs _ (by decide)⟩
 | some (.inr (.inl (its,f))),⟨a,v,b,c⟩=>exact ⟨a,v,b,c.keepT fun b cs=>hk b cs _ (by decide)⟩
 | some (.inr (.inr (.inl l))),⟨a,v,b,c⟩=>exact ⟨a,v,b,c.keepT fun b cs=>hk b cs _ (by decide)⟩
 | some (.inr (.inr (.inr b))),h=>exact h
 | none,h=>exact h
theorem TB_ne3 {k:K}:TB k≠87:=by
 unfold TB
 repeat' split
 all_goals decide
theorem ENGx.farR {st:St V} {L:Lay} {lp:Option K} {bs:Nat} {fm q sm bg kv:Value} {arr:List K} {w w':World} (h:ENGx st L lp bs fm q sm bg kv arr w) (hs:w.heap.size≤w'.heap.size)
 (hk:∀ (b:Nat) (cs:Array Value) (T:TypeId),T≠87→w.heap[b]? = some (.cells cs T)→w'.heap[b]? = some (.cells cs T)) (hmp:∀ (b:Nat) (es:Array MapEntry) (n:Nat),w.heap[b]? = some (.map es n)→w'.heap[b]? = some (.map es n)):ENGx st L lp bs fm q sm bg kv arr w':=by
 refine ⟨⟨hk _ _ _ (by decide) h.s,h.bo,fun b hb=>Nat.lt_of_lt_of_le (h.olt b hb) hs,h.sr.keep hmp,fun f c hf=>⟨(h.srb f c hf).1,hk _ _ _ (by decide) (h.srb f c hf).2⟩,h.sri,h.qm,h.sm.keep hmp,h.bg.keep fun b cs=>hk b cs _ (by decide),h.kv.keep fun b cs=>hk b cs _ (by decide),h.perm,h.nd,h.kl,h.ex,fun j n hj => ?_⟩,h.heap⟩
 have hc:=h.cell j n hj
 obtain ⟨x,vs,a,b⟩:=hc.ex
 exact ⟨⟨x,vs,hk _ _ _ TB_ne3 a,b.keepR hk⟩,hc.own⟩
theorem WkPost.box {B:Nat} {st st':St V} {L:Lay} {bs lb kind rb:Nat} {fm:Value} {v:V} {lk:List Lk} {W w':World} {e:Ending} {cs:Array Value} (h:WkPost B st L bs lb fm kind (.ok (v,lk)) st' W e w') (hb:w'.heap[rb]? = some (.cells cs 87)) (h3:W.heap.size≤rb) (i:Nat) (u:Value) :
 WkPost B st L bs lb fm kind (.ok (v,lk)) st' W e (w'.setCell ⟨rb,i,none⟩ u):=by
 obtain ⟨L',hN,⟨vs,he,hv⟩,hK,hE⟩:=h
 obtain ⟨q,sm,bg,kv,arr,hE⟩:=hE
 have hk:∀ (b:Nat) (cs':Array Value) (T:TypeId),T≠87→w'.heap[b]? = some (.cells cs' T)→(w'.setCell ⟨rb,i,none⟩ u).heap[b]? = some (.cells cs' T):=fun b cs' T hT hbb=>(heap_setCell_ne (fun e=>by
  rw [e,hb] at hbb;injection hbb with hbb;injection hbb with _ hbb;exact hT hbb.symm) _).trans hbb
 have hmp:∀ (b:Nat) (es:Array MapEntry) (n:Nat),w'.heap[b]? = some (.map es n)→(w'.setCell ⟨rb,i,none⟩ u).heap[b]? = some (.map es n):=fun b es n hbb=>(heap_setCell_ne (fun e=>by
  rw [e,hb] at hbb;injection hbb with hbb;cases hbb) _).trans hbb
 obtain ⟨lv,l1,l2,l3⟩:=hK.blk
 refine ⟨L',⟨hN.bk,hN.sb,hN.own,hN.fr.setCell _ (.inr h3) _⟩,⟨vs,he,hv.keepR hk⟩,⟨⟨lv,hk _ _ _ (by decide) l1,own_far l2 fun g hg=>heap_setCell_ne (fun e => ?_) _,l3⟩,hK.nb,by simpa using hK.ge,hK.ex,hK.len⟩,⟨q,sm,bg,kv,arr,hE.farR (by simp) hk hmp⟩⟩
 obtain ⟨_,⟨e1,_⟩ | ⟨g',cap,cur,e1,_,e3,_⟩⟩:=l2
 · rw [e1] at hg;simp [Value.ownBlock] at hg
 · rw [e1] at hg;simp [Value.ownBlock] at hg;subst hg
   rw [e,hb] at e3;injection e3 with e3;injection e3 with _ e3;exact absurd e3 (by decide)
theorem fetchS {W0:World} {E:Eng V} {st st':St V} {L:Lay} {B bs lb:Nat} {fm:Value} {lk:List Lk} {w:World} {k:K} {nc:Bool} {out:Out (V × List Lk)} (hS:SetC W0 E bs fm) (h2:k.kind≠2) (h3:k.kind≠3) (h4:k.kind≠4) (h:ENG st L none bs fm w) (hFM:FM W0 st.files L fm w) (hK:LKS st L bs lb B lk w) (hm:fetC E nc k lk st=some (out,st')) {z:Int} {fl nm:ByteArray} (hz:keyA k = .agg #[.int .i64 z, .string fl, .string nm]) {F G:FuncId} {lo:ByteArray} (hrc:ruleC bs k.kind = [.func (.func F) #[.pointer (some ⟨bs,0,none⟩)] #[], .func (.func G) #[] #[], .string lo]) :
 Calls Tryz.prog 57 #[ptr lb, .agg #[.int .i64 z, .string fl, .string nm], .agg #[.func (.func F) #[.pointer (some ⟨bs,0,none⟩)] #[], .func (.func G) #[] #[], .string lo]] w (WkPost B st L bs lb fm k.kind out st' w):=by
 obtain ⟨hf,hn⟩:=fetC_sz hm
 have hway:=way_of hm
 have hTI:TI k=165:=by simp [TI,h2,h3,h4]
 obtain ⟨lv,hb,_,_⟩:=hK.blk
 have t0:w.cell? ⟨lb,0,none⟩=some (.pointer (some ⟨bs,1,none⟩)):=heap_cell (i:=0) hb
 have HFI:Hid (∀ W,Below w.heap.size w W→Calls Tryz.prog 85 #[.pointer (some ⟨bs,1,none⟩), .agg #[.int .i64 z, .string fl, .string nm], .agg #[.func (.func F) #[.pointer (some ⟨bs,0,none⟩)] #[], .func (.func G) #[] #[], .string lo]] W fun e w1 => ∃ p lv,e = .returned (.pointer (some ⟨p,0,none⟩))∧w1.cell? ⟨lb,1,none⟩=some lv∧Hid (FX W0 B st (st.find k) L bs lb fm lk k p lv w w1)):=hid fun W hw=>by
  have hfi:=findS (h.below hw) k h2 h3 h4 hf hn
  rw [hrc,hz] at hfi
  refine hfi.mono ?_
  rintro e w1 ⟨L1,rfl,hE1,hN1⟩
  have hN:=hN1.lift hw
  have hK1:=hK.next hN
  obtain ⟨lv1,hb1,_,_⟩:=id hK1.blk
  exact ⟨_,lv1,rfl,heap_cell (i:=1) hb1,hid ⟨L1,⟨hE1,hK1,hN.toW,hK.ge,fun b cs T _ _ b3 b4=>hN.blk b4 b3⟩,hFM.next hN,rfl,hb1⟩⟩
 have HWAY:=hid hway
 have HSS:=hid hS
 have hb2:=cell_kept (below_newK (w.alloc (.cells #[.int .i64 z, .string fl, .string nm] 99)) (.cells #[.func (.func F) #[.pointer (some ⟨bs,0,none⟩)] #[], .func (.func G) #[] #[], .string lo] 114)) (cell_kept (below_newK w (.cells #[.int .i64 z, .string fl, .string nm] 99)) t0)
 have HBL:=hid (below_seq (below_newK w (.cells #[.int .i64 z, .string fl, .string nm] 99)) (below_newK (w.alloc (.cells #[.int .i64 z, .string fl, .string nm] 99)) (.cells #[.func (.func F) #[.pointer (some ⟨bs,0,none⟩)] #[], .func (.func G) #[] #[], .string lo] 114)))
 have HRC:=hid hrc
 clear hm hway hS hb h hFM hf hn hK hrc hz t0
 go_enter Tryz.func57,Tryz.ntmps57
 go_wp2_with fail
 have hA2:=old_heap (.cells #[.func (.func F) #[.pointer (some ⟨bs,0,none⟩)] #[], .func (.func G) #[] #[], .string lo] 114) (new_heap w (.cells #[.int .i64 z, .string fl, .string nm] 99))
 have hR:=new_heap (w.alloc (.cells #[.int .i64 z, .string fl, .string nm] 99)) (.cells #[.func (.func F) #[.pointer (some ⟨bs,0,none⟩)] #[], .func (.func G) #[] #[], .string lo] 114)
 rw [show (w.alloc (.cells #[.int .i64 z, .string fl, .string nm] 99)).heap.size=w.heap.size+1 from by simp] at hR
 generalize (w.alloc (.cells #[.int .i64 z, .string fl, .string nm] 99)).alloc (.cells #[.func (.func F) #[.pointer (some ⟨bs,0,none⟩)] #[], .func (.func G) #[] #[], .string lo] 114)=W at HBL hb2 hA2 hR ⊢
 generalize hkb:w.heap.size=kb at hA2 hR ⊢
 have k0:W.cell? ⟨kb,0,none⟩=some (.int .i64 z):=heap_cell (i:=0) hA2
 have k1:W.cell? ⟨kb,1,none⟩=some (.string fl):=heap_cell (i:=1) hA2
 have k2:W.cell? ⟨kb,2,none⟩=some (.string nm):=heap_cell (i:=2) hA2
 have r0:W.cell? ⟨kb+1,0,none⟩=some _:=heap_cell (i:=0) hR
 have r1:W.cell? ⟨kb+1,1,none⟩=some _:=heap_cell (i:=1) hR
 have r2:W.cell? ⟨kb+1,2,none⟩=some _:=heap_cell (i:=2) hR
 have HKB:=hid hkb
 clear hA2 hR hkb
 apply shareG (F:=fun (p:Nat) (lv:Value) (w1:World)=>w1.cell? ⟨lb,1,none⟩=some lv∧Hid (FX W0 B st (st.find k) L bs lb fm lk k p lv w w1))
 case main =>
  intro KEY
  go_region_with (refine (HFI.out _ (by first | exact HBL.out | exact below_seq HBL.out (below_drewN _ 1) | exact below_seq HBL.out (below_drewN _ 2) | exact below_seq HBL.out (below_drewN _ 3))).mono ?_;rintro e w1 ⟨p,lv,rfl,hc1,hx1⟩;have hx2:=hid (And.intro hc1 hx1);clear hc1 hx1)
  all_goals
   exact KEY _ _ _ hx2.out
 case key =>
  intro p lv w1 hx
  obtain ⟨c1,hx1⟩:=hx
  have hfx:=hx1.out
  rcases HWAY.out with ⟨v,hin,hv,rfl,rfl⟩ | ⟨v,a,st2,hin,he,hl,hv,rfl,rfl⟩ | ⟨c,st2,hin,he,h7,rfl,rfl⟩
  · have hco:=fe_old hfx hin hv
    rw [hTI] at hco
    have HCO:=hid hco
    clear HFI HWAY hx1 hfx hin hv hco HBL hb2 k0 k1 k2 r0 r1 r2
    go_wp2_with fail
    refine HCO.out.mono ?_
    rintro e w2 ⟨rfl,m,x,pl,vs,sb,hsh,hP,hfr⟩
    obtain ⟨y,rfl⟩:∃ y,vs = [.string y]:=by simpa [ValC,h2,h3,h4] using hsh
    have d15:w2.cell? ⟨p,15,none⟩=some (.string y):=sb.cell (i:=15) (by simp [slotC,HRC.out])
    have HP:=hid hP
    clear sb hsh hP hfr HCO
    go_wp2_with fail
    go_ret
    have h9:=HP.out
    rw [show valV k.kind [.string y] = .string y by simp [valV,h3]] at h9
    exact h9
  · have hco:=fe_new HSS.out hfx hin he hl hv
    rw [hTI] at hco
    have HCO:=hid hco
    clear HFI HWAY hx1 hfx hin he hl hv hco HBL hb2 k0 k1 k2 r0 r1 r2
    go_wp2_with fail
    refine HCO.out.mono ?_
    rintro e w2 ⟨rfl,hse⟩
    go_wp2_with fail
    refine hse.out.mono ?_
    rintro e w3 ⟨rfl,had⟩
    go_wp2_with fail
    refine had.out.mono ?_
    rintro e w4 ⟨rfl,m,x,pl,vs,sb,hsh,hP,hfr⟩
    obtain ⟨y,rfl⟩:∃ y,vs = [.string y]:=by simpa [ValC,h2,h3,h4] using hsh
    have d15:w4.cell? ⟨p,15,none⟩=some (.string y):=sb.cell (i:=15) (by simp [slotC,HRC.out])
    have HP:=hid hP
    clear sb hsh hP hfr HCO had hse
    go_wp2_with fail
    go_ret
    have h9:=HP.out
    rw [show valV k.kind [.string y] = .string y by simp [valV,h3]] at h9
    exact h9
  · have hco:=fe_cyc HSS.out hfx hin he
    rw [hTI] at hco
    have HCO:=hid hco
    clear HFI HWAY hx1 hfx hin he hco HBL hb2 k0 k1 k2 r0 r1 r2
    go_wp2_with fail
    refine HCO.out.mono ?_
    rintro e w2 ⟨rfl,hse⟩
    go_wp2_with fail
    unfold cycP at hse
    refine hse.out.mono ?_
    rintro e w3 ⟨rfl,hP⟩
    go_wp2_with fail
    exact ⟨rfl,hP.out⟩
end Go.Proofs.YthibodlojlkppaaGreatDoor

import Derived.Test.YthibodlojlkppaaGreatDoorZ03
set_option linter.all false
set_option maxRecDepth 100000
set_option maxHeartbeats 40000000
namespace Go.Proofs.YthibodlojlkppaaGreatDoor
open Go.RowKit
variable [DecidableEq K] [LawfulBEq Lk]
def aM.slot(L:aM)(k:K)(p ms:Nat):aM:={L with bk:=fun j=>if j=k then p else L.bk j,own:=fun b=>L.own b\/b=p\/b=ms}
theorem A2{st:St V}{k:K}(hk:st.sl k=none):st.find k=st.put k p7:=by simp[St.find,hk]
theorem uE{st:St V}{k:K}(hk:st.sl k≠none):st.find k=st:=by
 obtain⟨m,hm⟩:=Option.ne_none_iff_exists'.1 hk;simp[St.find,hm]
theorem Em{st:St V}{k:K}(hk:st.sl k=none):bH (st.put k p7)=bH st:=by
 funext j;unfold bH;by_cases hj:j=k
 . subst hj;simp[St.put,hk,p7]
 . simp[St.put,hj]
theorem FN.eng{st:St V}{L:aM}{bs:Nat}{fm q sm bg kv:Value}{arr:List K}{w w':World}(h:cV st L none bs fm q sm bg kv arr w){k:K}(hk:st.sl k=none){p ms n:Nat}{es:Array MapEntry}{zv:List Value}(hz:bO L.own w k.kind none zv)
 (hF:FN w w' bs p ms n es (TB k) (TI k) fm st.rev q bg kv st.uses (aX bs k p7 false ⟨none,0,0,0,false⟩ (-1) zv) (cM k)) {ks:List K} (hes:es.toList.map (fun e=>(e.key,e.val))=ks.map (fun k=>(cM k,aY L k))) (hnd:ks.Nodup) (hks:∀k,k∈ks↔st.sl k≠none)
 (hms:w.heap.size<=ms\/L.own ms/\sm = .map (some ms)/\w.heap[ms]? = some (.map es n)) :
 cV (st.find k) (L.slot k p ms) none bs fm q (.map (some ms)) bg kv arr w'/\Next st (st.find k) L (L.slot k p ms) w w':=by
 rw[A2 hk];have hbs:=aB h.s;have hpl:=hF.lp;have hT:=fU (k:=k);have hfr:FR L.own w w':=⟨hF.fr.os,hF.fr.tape,hF.fr.output,hF.fr.size,fun b hb hn=>hF.fr.block b hb (by
  simp only[List.mem_cons,List.not_mem_nil,or_false,not_or];refine⟨fun e=>hn (e ▸ h.bo),fun e=>?_⟩;rcases hms with h1|h1
  . omega
  . exact hn (e ▸ h1.1))⟩
 have hcs:∀(b:Nat) (cs:Array Value) (T:TypeId),w.heap[b]? = some (.cells cs T)->T≠66->w'.heap[b]? = some (.cells cs T):=fun b cs T hb h1=>by
  rw[hF.fr.block b (aB hb)]
  . exact hb
  . simp only[List.mem_cons,List.not_mem_nil,or_false,not_or]
    refine⟨fun e=>?_,fun e=>?_⟩
    . rw[e,h.s] at hb;injection hb with hb;injection hb with _ hb;exact h1 hb.symm
    . rcases hms with h2|h2
      . have:=aB hb;omega
      . rw[e,h2.2.2] at hb;injection hb with hb;cases hb
 have hmp:∀(b:Nat) (es:Array MapEntry) (n:Nat),b≠ms->w.heap[b]? = some (.map es n)->w'.heap[b]? = some (.map es n):=fun b es n hne hb=>by
  rw[hF.fr.block b (aB hb)]
  . exact hb
  . simp only[List.mem_cons,List.not_mem_nil,or_false,not_or]
    refine⟨fun e=>?_,hne⟩;rw[e,h.s] at hb;injection hb with hb;cases hb
 have hbk:∀j,st.sl j≠none->(L.slot k p ms).bk j=L.bk j:=fun j hj=>by
  have:j≠k:=fun e=>hj (e ▸ hk)
  simp[aM.slot,this]
 have hsV:∀j,st.sl j≠none->aY (L.slot k p ms) j=aY L j:=fun j hj=>by simp only[aY,hbk j hj]
 have hlt:∀b,(L.slot k p ms).own b->b<w'.heap.size:=fun b hb=>by
  rcases hb with hb|rfl|rfl
  . exact Nat.lt_of_lt_of_le (h.olt b hb) hF.fr.size
  . exact aB hF.sb
  . exact aB hF.m
 have hext:∀b,(L.slot k p ms).own b->L.own b\/w.heap.size<=b:=fun b hb=>by
  rcases hb with hb|rfl|rfl
  . exact .inl hb
  . exact .inr hpl
  . rcases hms with h1|h1
    . exact .inr h1
    . exact .inl h1.1
 have hka:k∉arr:=fun e=>h.ex k e hk;refine⟨⟨⟨hF.s,.inl h.bo,hlt,?_,fun f c hf=>⟨.inl (h.srb f c hf).1,hcs _ _ _ (h.srb f c hf).2 (by decide)⟩,h.sri,fun b hb=>?_,?_,⟨(h.bg.keep fun b cs hb=>hcs b cs _ hb (by decide)).1,fun g hg=>.inl (h.bg.2 g hg)⟩,⟨?_,fun g hg=>.inl (h.kv.2 g hg)⟩,h.perm,h.nd,h.kl,fun j hj=>Cf (h.ex j hj),fun j m hj=>?_⟩,?_⟩,⟨fun j hj=>⟨Cf hj,hbk j hj⟩,fun f hf=>⟨hf,rfl⟩,hext,hfr⟩⟩
 . rcases h.sr with h1|⟨b,es',n',h1,h2,h3,h4⟩
   . exact .inl h1
   . refine .inr ⟨b,es',n',h1,.inl h2,hmp b es' n' (fun e=>?_) h3,h4⟩
     rcases hms with h5|h5
     . have:=aB h3;omega
     . exact h.qm b h1 (e ▸ h5.2.1)
 . intro e
   cases e;rcases hms with h5|h5
   . rcases h.sr with ⟨h1,_⟩|⟨b,es',n',h1,h2,h3,h4⟩
     . rw[h1] at hb;cases hb
     . rw[h1] at hb;cases hb
       have:=aB h3;omega
   . exact h.qm ms hb h5.2.1
 . refine .inr ⟨ms,_,_,rfl,.inr (.inr rfl),hF.m,ks ++ [k],?_,?_,fun j=>?_⟩
   . rw[Array.toList_push,List.map_append,hes,List.map_append]
     congr 1
     . refine List.map_congr_left fun j hj=>?_
       rw[hsV j ((hks j).1 hj)]
     . simp[aY,aM.slot]
   . rw[List.nodup_append]
     exact⟨hnd,by simp,fun a ha b hb=>by simp at hb;subst hb;intro e;exact ((hks a).1 ha) (e ▸ hk)⟩
   . rw[List.mem_append,hks]
     by_cases hjk:j=k
     . simp[hjk,St.put]
     . simp[hjk,St.put]
 . rw[show arr.map (aY (L.slot k p ms))=arr.map (aY L) from List.map_congr_left fun j hj=>hsV j (h.ex j hj)]
   exact (h.kv.keep fun b cs hb=>hcs b cs _ hb (by decide)).1
 . by_cases hjk:j=k
   . subst hjk
     simp[St.put] at hj;subst hj;have hb:(L.slot j p ms).bk j=p:=by simp[aM.slot]
     refine⟨⟨⟨none,0,0,0,false⟩,zv,?_,hz.next hfr hext⟩,?_⟩
     . rw[hb,show kA arr j = -1 by simp[kA,hka]]
       exact hF.sb
     . rw[hb];exact .inr (.inl rfl)
   . have hj':st.sl j=some m:=by simpa[St.put,hjk] using hj
     have hc:=h.cell j m hj';obtain⟨x,vs,a,b⟩:=hc.ex;have hb:=hbk j (by rw[hj'];simp);refine⟨⟨x,vs,?_,b.next hfr hext⟩,?_⟩
     . rw[hb]
       exact hcs _ _ _ a fU.1
     . rw[hb];exact .inl hc.own
 . rw[Em hk];exact h.heap
def mV(st:St V)(L:aM)(bs:Nat)(fm:Value)(k:K)(w:World):Ending->World->Prop:=fun e w'=>
 ∃L',e = .returned (ptr (L'.bk k))/\bN (st.find k) L' none bs fm w'/\Next st (st.find k) L L' w w'
theorem pG{st:St V}{L:aM}{bs:Nat}{fm:Value}{w:World}(h:bN st L none bs fm w)(k:K){zv:List Value}(hz:bO L.own w k.kind none zv){Fi:FuncId}{args:Array Value}
 (hn:∀q bg kv,(∀w,(Instr.lookup 58 (.map none) (cM k) false).run Tryz.prog w = .ok .nilIface w)->(∀(ms:Nat) (v:Value) (w:World),w.heap[ms]? = some (.map #[] 0)->(Instr.mapUpdate 58 (.map (some ms)) (cM k) v).run Tryz.prog w = .ok () (Ses.setO w ms (.map (#[].push {key:=cM k,val:=v,born:=0}) (0+1))))->w.heap[bs]? = some (.cells #[fm,.int .i64 st.rev,q,.map none,bg,kv,.int .u64 st.uses] 66)->
   Calls Tryz.prog Fi args w fun e w'=>∃p ms,e = .returned (.pointer (some ⟨p,0,none⟩))/\w.heap.size<=ms/\FN w w' bs p ms 0 #[] (TB k) (TI k) fm st.rev q bg kv st.uses (aX bs k p7 false ⟨none,0,0,0,false⟩ (-1) zv) (cM k))
 (ho:∀q bg kv ms es n,(∀w,w.heap[ms]? = some (.map es n)->(Instr.lookup 58 (.map (some ms)) (cM k) false).run Tryz.prog w = .ok .nilIface w)->(∀(v:Value) (w:World),w.heap[ms]? = some (.map es n)->(Instr.mapUpdate 58 (.map (some ms)) (cM k) v).run Tryz.prog w = .ok () (Ses.setO w ms (.map (es.push {key:=cM k,val:=v,born:=n}) (n+1))))->w.heap[ms]? = some (.map es n)->w.heap[bs]? = some (.cells #[fm,.int .i64 st.rev,q,.map (some ms),bg,kv,.int .u64 st.uses] 66)->
   Calls Tryz.prog Fi args w fun e w'=>∃p,e = .returned (.pointer (some ⟨p,0,none⟩))/\FN w w' bs p ms n es (TB k) (TI k) fm st.rev q bg kv st.uses (aX bs k p7 false ⟨none,0,0,0,false⟩ (-1) zv) (cM k))
 (hk:∀q sm bg kv p,(∀w',Below w.heap.size w w'->(Instr.lookup 58 sm (cM k) false).run Tryz.prog w' = .ok (.iface (TI k) (.pointer (some ⟨p,0,none⟩))) w')->w.heap[bs]? = some (.cells #[fm,.int .i64 st.rev,q,sm,bg,kv,.int .u64 st.uses] 66)->
   Calls Tryz.prog Fi args w fun e w'=>e = .returned (.pointer (some ⟨p,0,none⟩))/\Below w.heap.size w w') :
 Calls Tryz.prog Fi args w (mV st L bs fm k w):=by
 obtain⟨q,sm,bg,kv,arr,h⟩:=h;by_cases hs:st.sl k=none
 . rcases id h.sm with ⟨h1,h2⟩|⟨b,es,n,h1,h2,h3,ks,h4,h5,h6⟩
   . have hS:=h.s
     rw[h1] at hS;have hlk:∀w,(Instr.lookup 58 (.map none) (cM k) false).run Tryz.prog w = .ok .nilIface w:=fun w=>by
      have:=qB (sl:=fun _=>(none:Option (bU V))) (L:=L) (sm:=.map none) (w:=w) (.inl ⟨rfl,fun _=>rfl⟩) k
      simpa using this
     refine (hn q bg kv hlk (fun ms v w hm=>uD (ks:=[]) (f:=aY L) k v hm rfl (by simp)) hS).mono fun e w' ⟨p,ms,e1,e2,e3⟩=>?_;obtain⟨a,b⟩:=e3.eng h hs hz (ks:=[]) rfl (by simp) (fun j=>by simp[h2 j]) (.inl e2);exact⟨_,by rw[e1];simp[aM.slot],⟨_,_,_,_,_,a⟩,b⟩
   . have hS:=h.s
     subst h1;have hnk:k∉ks:=fun e=>(h6 k).1 e hs;refine (ho q bg kv b es n (fun w hw=>?_) (fun v w hm=>uD (ks:=ks) (f:=aY L) k v hm h4 hnk) h3 hS).mono fun e w' ⟨p,e1,e3⟩=>?_
     . have:=qB (sl:=st.sl) (L:=L) (sm:=.map (some b)) (w:=w) (.inr ⟨b,es,n,rfl,h2,hw,ks,h4,h5,h6⟩) k
       rwa[if_pos hs] at this
     . obtain⟨a,b⟩:=e3.eng h hs hz h4 h5 h6 (.inr ⟨h2,rfl,h3⟩)
       exact⟨_,by rw[e1];simp[aM.slot],⟨_,_,_,_,_,a⟩,b⟩
 . refine (hk q sm bg kv (L.bk k) (fun w' hb=>?_) h.s).mono fun e w' ⟨e1,e2⟩=>⟨L,e1,?_,?_⟩
   . have:=qB (h.below hb).sm k
     rwa[if_neg hs] at this
   . rw[uE hs];exact⟨_,_,_,_,_,h.below e2⟩
   . rw[uE hs];exact (Next.refl st L w).below e2
theorem Gj{f q bg kv:Value}{rv us:Int}(bs F G:Nat)(z:Int)(fl nm:ByteArray)(lo:ByteArray)(w:World)(hfl:Hid (fl.size<=cD))(hnm:Hid (nm.size<=cD))(hlk:∀w,(Instr.lookup 58 (.map none) (.agg #[.int .i64 z,.string fl,.string nm]) false).run Tryz.prog w = .ok .nilIface w)(hpt:∀(ms:Nat) (v:Value) (w:World),w.heap[ms]? = some (.map #[] 0)->(Instr.mapUpdate 58 (.map (some ms)) (.agg #[.int .i64 z,.string fl,.string nm]) v).run Tryz.prog w = .ok () (Ses.setO w ms (.map (#[].push {key:=.agg #[.int .i64 z,.string fl,.string nm],val:=v,born:=0}) (0+1))))(h3:w.heap[bs]? = some (.cells #[f,.int .i64 rv,q,.map none,bg,kv,.int .u64 us] 66)) :
 Calls Tryz.prog 85 #[.pointer (some ⟨bs,1,none⟩),.agg #[.int .i64 z,.string fl,.string nm],.agg #[.func (.func F) #[.pointer (some ⟨bs,0,none⟩)] #[],.func (.func G) #[] #[],.string lo]] w fun e w'=>∃p ms,e = .returned (.pointer (some ⟨p,0,none⟩))/\w.heap.size<=ms/\FN w w' bs p ms 0 #[] 175 165 f rv q bg kv us [.pointer (some ⟨bs,1,none⟩),.int .i64 z,.string fl,.string nm,.bool false,.bool false,.slice none 0 0,.int .i64 (-1),.int .i64 0,.bool false,.int .i64 (-1),.int .u64 0,.func (.func F) #[.pointer (some ⟨bs,0,none⟩)] #[],.func (.func G) #[] #[],.string lo,.string ⟨#[]⟩] (.agg #[.int .i64 z,.string fl,.string nm]):=by
 have m1:=hlk;have m2:=fun (w:World) (xT:TypeId)=>(by kernel_rfl:(Instr.typeAssert .nilIface xT 165 true).run Tryz.prog w = .ok (.tuple #[.pointer none,.bool false]) w)
 have hA:=aI w (.cells #[.int .i64 z,.string fl,.string nm] 99);have hA2:=aC (.cells #[.func (.func F) #[.pointer (some ⟨bs,0,none⟩)] #[],.func (.func G) #[] #[],.string lo] 114) hA;have hR:=aI (w.alloc (.cells #[.int .i64 z,.string fl,.string nm] 99)) (.cells #[.func (.func F) #[.pointer (some ⟨bs,0,none⟩)] #[],.func (.func G) #[] #[],.string lo] 114);rw[show (w.alloc (.cells #[.int .i64 z,.string fl,.string nm] 99)).heap.size=w.heap.size+1 from by simp] at hR;have hS:=aC (.cells #[.func (.func F) #[.pointer (some ⟨bs,0,none⟩)] #[],.func (.func G) #[] #[],.string lo] 114) (aC (.cells #[.int .i64 z,.string fl,.string nm] 99) h3);have HBL:=hid (((Below.refl w.heap.size w).alloc (Nat.le_refl _) (.cells #[.int .i64 z,.string fl,.string nm] 99)).alloc (by simp) (.cells #[.func (.func F) #[.pointer (some ⟨bs,0,none⟩)] #[],.func (.func G) #[] #[],.string lo] 114));clear hA;go_enter Tryz.func85,Tryz.ntmps85;go_wp2_with fail
 generalize (w.alloc (.cells #[.int .i64 z,.string fl,.string nm] 99)).alloc (.cells #[.func (.func F) #[.pointer (some ⟨bs,0,none⟩)] #[],.func (.func G) #[] #[],.string lo] 114)=W at hA2 hR hS HBL ⊢;generalize hkb:w.heap.size=kb at hA2 hR ⊢;have k0:W.cell? ⟨kb,0,none⟩=some (.int .i64 z):=aA (i:=0) hA2;have k1:W.cell? ⟨kb,1,none⟩=some (.string fl):=aA (i:=1) hA2;have k2:W.cell? ⟨kb,2,none⟩=some (.string nm):=aA (i:=2) hA2;have s3:W.cell? ⟨bs,3,none⟩=some (.map none):=aA (i:=3) hS;have HS:=hid hS;have HA:=hid hA2;have HR:=hid hR;have HKB:=hid hkb;have hbk:bs<kb:=by have:=aB h3;omega
 clear hA2 hR hS h3 hkb;have hS:Below W.heap.size W W/\W.cell? ⟨kb,0,none⟩=some (.int .i64 z)/\W.cell? ⟨kb,1,none⟩=some (.string fl)/\W.cell? ⟨kb,2,none⟩=some (.string nm)/\W.cell? ⟨bs,3,none⟩=some (.map none):=⟨Below.refl _ _,k0,k1,k2,s3⟩
 clear k0 k1 k2 s3;go_region_held3 (fun wx=>Below W.heap.size W wx/\wx.cell? ⟨kb,0,none⟩=some (.int .i64 z)/\wx.cell? ⟨kb,1,none⟩=some (.string fl)/\wx.cell? ⟨kb,2,none⟩=some (.string nm)/\wx.cell? ⟨bs,3,none⟩=some (.map none))
  (first
    | exact bL (by assumption) (aJ _)
    | exact bL (by assumption) (Below.refl _ _)
    | exact bL hS (aJ _))
  (first|fail)
 have hHeld:=(by assumption:Below W.heap.size W _/\_)
 generalize W.drew=W1 at hHeld ⊢;obtain⟨hb1,k0,k1,k2,s3⟩:=hHeld;have HS1:=hid (Ses.below_heap hb1 HS.out);have HA1:=hid (Ses.below_heap hb1 HA.out);have HR1:=hid (Ses.below_heap hb1 HR.out);have HB1:=hid hb1;have g1:W1.frozen? ⟨kb,1,none⟩=false:=aE HA1.out;have g2:W1.frozen? ⟨kb,2,none⟩=false:=aE HA1.out;have hT:pF W1 W1 kb bs fl nm (.int .i64 z) (.map none):=⟨Below.refl _ _,k0,k1,k2,s3,g1,g2⟩
 clear hb1 hS m1 m2 k0 k1 k2 s3 g1 g2;go_wp2;go_region_held3 (fun wx=>Below W1.heap.size W1 wx/\wx.cell? ⟨kb,0,none⟩=some (.int .i64 z)/\wx.cell? ⟨kb,1,none⟩=some (.string fl)/\wx.cell? ⟨kb,2,none⟩=some (.string nm)/\wx.cell? ⟨bs,3,none⟩=some (.map none)/\wx.frozen? ⟨kb,1,none⟩=false/\wx.frozen? ⟨kb,2,none⟩=false)
  (first
    | exact bW (by assumption) (aJ _)
    | exact bW (by assumption) (by assumption)
    | exact iI (by assumption)
    | exact iJ (by assumption)
    | exact bW (by assumption) (Below.refl _ _)
    | exact bW hT (aJ _))
  (first
    | (go_at_call_of 23 fl;refine (dJ _ _ hfl.out).mono ?_;rintro e w8⟨rfl,hb8⟩)
    | (go_at_call_of 23 nm;refine (dJ _ _ hnm.out).mono ?_;rintro e w8⟨rfl,hb8⟩))
 have hHeld:=(by assumption:Below W1.heap.size W1 _/\_)
 generalize (w8.setCell ⟨kb,1,none⟩ (.string fl)).setCell ⟨kb,2,none⟩ (.string nm)=W2 at hHeld ⊢;obtain⟨hb2,k0,k1,k2,s3,g1,g2⟩:=hHeld;have HS2:=hid (Ses.below_heap hb2 HS1.out);have HA2:=hid (Ses.below_heap hb2 HA1.out);have hr2:=Ses.below_heap hb2 HR1.out;have HB2:=hid hb2;have r0:W2.cell? ⟨kb+1,0,none⟩=some _:=aA (i:=0) hr2;have r1:W2.cell? ⟨kb+1,1,none⟩=some _:=aA (i:=1) hr2;have r2:W2.cell? ⟨kb+1,2,none⟩=some _:=aA (i:=2) hr2;have hs2:=HS2.out;have ha2:=HA2.out;have e3:∀o,(W2.alloc o).cell? ⟨bs,3,none⟩=some (.map none):=fun o=>aA (i:=3) (aC o hs2);have f3:∀o,(W2.alloc o).frozen? ⟨bs,3,none⟩=false:=fun o=>aE (aC o hs2);have e0:∀o,(W2.alloc o).cell? ⟨kb,0,none⟩=some (.int .i64 z):=fun o=>aA (i:=0) (aC o ha2);have e1:∀o,(W2.alloc o).cell? ⟨kb,1,none⟩=some (.string fl):=fun o=>aA (i:=1) (aC o ha2);have e2:∀o,(W2.alloc o).cell? ⟨kb,2,none⟩=some (.string nm):=fun o=>aA (i:=2) (aC o ha2);have e33:∀o o',((W2.alloc o).alloc o').cell? ⟨bs,3,none⟩=some (.map none):=fun o o'=>aA (i:=3) (aC o' (aC o hs2));have f33:∀o o',((W2.alloc o).alloc o').frozen? ⟨bs,3,none⟩=false:=fun o o'=>aE (aC o' (aC o hs2));have hmn:∀W:World,(binOp .eql 58 (.map none) (.map none)).run Tryz.prog W = .ok (.bool true) W:=fun W=>run_eql_map_nil W 58 99 94 none Tryz.underlying58;have hmk:∀W:World,(Instr.makeMap 58 none).run Tryz.prog W = .ok (.map (some W.heap.size)) (W.alloc (.map #[] 0)):=fun W=>@run_makeMap Tryz.prog 58 W;clear hb2 hT hr2 g1 g2;go_wp2;have hsL:=aB hs2;have haL:=aB ha2;have hN:=aI W2 (.cells #[.pointer (some ⟨bs,1,none⟩),.int .i64 z,.string fl,.string nm,.bool false,.bool false,.slice none 0 0,.int .i64 (-1),.int .i64 0,.bool false,.int .i64 (-1),.int .u64 0,.func (.func F) #[.pointer (some ⟨bs,0,none⟩)] #[],.func (.func G) #[] #[],.string lo,.string ⟨#[]⟩] 175);have hP:=hid (qC (f:=f) (rv:=rv) (q:=q) (bg:=bg) (kv:=kv) (us:=us) hs2 ha2 hN (by omega) rfl);generalize ((W2.alloc (.cells #[.pointer (some ⟨bs,1,none⟩),.int .i64 z,.string fl,.string nm,.bool false,.bool false,.slice none 0 0,.int .i64 (-1),.int .i64 0,.bool false,.int .i64 (-1),.int .u64 0,.func (.func F) #[.pointer (some ⟨bs,0,none⟩)] #[],.func (.func G) #[] #[],.string lo,.string ⟨#[]⟩] 175)).alloc (.map #[] 0)).setCell ⟨bs,3,none⟩ (.map (some (W2.heap.size+1)))=W3 at hP ⊢;clear hN e3 f3 e0 e1 e2 e33 f33 hmn hmk k0 k1 k2 s3 r0 r1 r2 hs2 ha2;have q3:W3.cell? ⟨bs,3,none⟩=some (.map (some (W2.heap.size+1))):=aA (i:=3) hP.out.s;have k0:W3.cell? ⟨kb,0,none⟩=some (.int .i64 z):=aA (i:=0) hP.out.k;have k1:W3.cell? ⟨kb,1,none⟩=some (.string fl):=aA (i:=1) hP.out.k;have k2:W3.cell? ⟨kb,2,none⟩=some (.string nm):=aA (i:=2) hP.out.k;have hm3:=hP.out.m;have hst:=fun W=>hpt (W2.heap.size+1) (.iface 165 (.pointer (some ⟨W2.heap.size,0,none⟩))) W;clear hpt;have hst0:=hst W3 hm3;have hst1:=hst W3.drew hm3;have hst2:=hst W3.drew.drew hm3;clear hst;go_region_with fail
 all_goals
  go_wp2;go_ret;refine⟨_,_,rfl,(by have:=HBL.out.size;have:=HB1.out.size;have:=HB2.out.size;omega),hP.out.fn ?_ (Nat.le_refl _) _⟩;have hw:Below w.heap.size w W:=HBL.out;exact (Ses.Fr.of_below hw).trans ((Ses.Fr.of_below HB1.out).trans (Ses.Fr.of_below HB2.out))
theorem Gk{f q bg kv:Value}{rv us:Int}(bs F G ms n:Nat)(es:Array MapEntry)(z:Int)(fl nm:ByteArray)(lo:ByteArray)(w:World)(hfl:Hid (fl.size<=cD))(hnm:Hid (nm.size<=cD))(hlk:∀w,w.heap[ms]? = some (.map es n)->(Instr.lookup 58 (.map (some ms)) (.agg #[.int .i64 z,.string fl,.string nm]) false).run Tryz.prog w = .ok .nilIface w)(hpt:∀(v:Value) (w:World),w.heap[ms]? = some (.map es n)->(Instr.mapUpdate 58 (.map (some ms)) (.agg #[.int .i64 z,.string fl,.string nm]) v).run Tryz.prog w = .ok () (Ses.setO w ms (.map (es.push {key:=.agg #[.int .i64 z,.string fl,.string nm],val:=v,born:=n}) (n+1))))(hM:w.heap[ms]? = some (.map es n))(h3:w.heap[bs]? = some (.cells #[f,.int .i64 rv,q,.map (some ms),bg,kv,.int .u64 us] 66)) :
 Calls Tryz.prog 85 #[.pointer (some ⟨bs,1,none⟩),.agg #[.int .i64 z,.string fl,.string nm],.agg #[.func (.func F) #[.pointer (some ⟨bs,0,none⟩)] #[],.func (.func G) #[] #[],.string lo]] w fun e w'=>∃p,e = .returned (.pointer (some ⟨p,0,none⟩))/\FN w w' bs p ms n es 175 165 f rv q bg kv us [.pointer (some ⟨bs,1,none⟩),.int .i64 z,.string fl,.string nm,.bool false,.bool false,.slice none 0 0,.int .i64 (-1),.int .i64 0,.bool false,.int .i64 (-1),.int .u64 0,.func (.func F) #[.pointer (some ⟨bs,0,none⟩)] #[],.func (.func G) #[] #[],.string lo,.string ⟨#[]⟩] (.agg #[.int .i64 z,.string fl,.string nm]):=by
 have HLK:=hid hlk;have HPT:=hid hpt;clear hlk hpt;have m2:=fun (w:World) (xT:TypeId)=>(by kernel_rfl:(Instr.typeAssert .nilIface xT 165 true).run Tryz.prog w = .ok (.tuple #[.pointer none,.bool false]) w)
 have hA:=aI w (.cells #[.int .i64 z,.string fl,.string nm] 99);have hA2:=aC (.cells #[.func (.func F) #[.pointer (some ⟨bs,0,none⟩)] #[],.func (.func G) #[] #[],.string lo] 114) hA;have hR:=aI (w.alloc (.cells #[.int .i64 z,.string fl,.string nm] 99)) (.cells #[.func (.func F) #[.pointer (some ⟨bs,0,none⟩)] #[],.func (.func G) #[] #[],.string lo] 114);rw[show (w.alloc (.cells #[.int .i64 z,.string fl,.string nm] 99)).heap.size=w.heap.size+1 from by simp] at hR;have hS:=aC (.cells #[.func (.func F) #[.pointer (some ⟨bs,0,none⟩)] #[],.func (.func G) #[] #[],.string lo] 114) (aC (.cells #[.int .i64 z,.string fl,.string nm] 99) h3);have HBL:=hid (((Below.refl w.heap.size w).alloc (Nat.le_refl _) (.cells #[.int .i64 z,.string fl,.string nm] 99)).alloc (by simp) (.cells #[.func (.func F) #[.pointer (some ⟨bs,0,none⟩)] #[],.func (.func G) #[] #[],.string lo] 114));have HM1:=hid (aC (.cells #[.func (.func F) #[.pointer (some ⟨bs,0,none⟩)] #[],.func (.func G) #[] #[],.string lo] 114) (aC (.cells #[.int .i64 z,.string fl,.string nm] 99) hM));clear hM;clear hA;go_enter Tryz.func85,Tryz.ntmps85;go_wp2_with fail
 generalize (w.alloc (.cells #[.int .i64 z,.string fl,.string nm] 99)).alloc (.cells #[.func (.func F) #[.pointer (some ⟨bs,0,none⟩)] #[],.func (.func G) #[] #[],.string lo] 114)=W at hA2 hR hS HBL HM1 ⊢;generalize hkb:w.heap.size=kb at hA2 hR ⊢;have k0:W.cell? ⟨kb,0,none⟩=some (.int .i64 z):=aA (i:=0) hA2;have k1:W.cell? ⟨kb,1,none⟩=some (.string fl):=aA (i:=1) hA2;have k2:W.cell? ⟨kb,2,none⟩=some (.string nm):=aA (i:=2) hA2;have s3:W.cell? ⟨bs,3,none⟩=some (.map (some ms)):=aA (i:=3) hS;have HS:=hid hS;have HA:=hid hA2;have HR:=hid hR;have HKB:=hid hkb;have hbk:bs<kb:=by have:=aB h3;omega
 clear hA2 hR hS h3 hkb;have hS:Below W.heap.size W W/\W.cell? ⟨kb,0,none⟩=some (.int .i64 z)/\W.cell? ⟨kb,1,none⟩=some (.string fl)/\W.cell? ⟨kb,2,none⟩=some (.string nm)/\W.cell? ⟨bs,3,none⟩=some (.map (some ms)):=⟨Below.refl _ _,k0,k1,k2,s3⟩
 clear k0 k1 k2 s3;have m10:=HLK.out W HM1.out;have m11:=HLK.out W.drew HM1.out;have m12:=HLK.out W.drew.drew HM1.out;have m13:=HLK.out W.drew.drew.drew HM1.out;go_region_held3 (fun wx=>Below W.heap.size W wx/\wx.cell? ⟨kb,0,none⟩=some (.int .i64 z)/\wx.cell? ⟨kb,1,none⟩=some (.string fl)/\wx.cell? ⟨kb,2,none⟩=some (.string nm)/\wx.cell? ⟨bs,3,none⟩=some (.map (some ms)))
  (first
    | exact bL (by assumption) (aJ _)
    | exact bL (by assumption) (Below.refl _ _)
    | exact bL hS (aJ _))
  (first|fail)
 have hHeld:=(by assumption:Below W.heap.size W _/\_)
 generalize W.drew=W1 at hHeld ⊢;obtain⟨hb1,k0,k1,k2,s3⟩:=hHeld;have HS1:=hid (Ses.below_heap hb1 HS.out);have HA1:=hid (Ses.below_heap hb1 HA.out);have HR1:=hid (Ses.below_heap hb1 HR.out);have HB1:=hid hb1;have HM2:=hid (Ses.below_heap hb1 HM1.out);have g1:W1.frozen? ⟨kb,1,none⟩=false:=aE HA1.out;have g2:W1.frozen? ⟨kb,2,none⟩=false:=aE HA1.out;have hT:pF W1 W1 kb bs fl nm (.int .i64 z) (.map (some ms)):=⟨Below.refl _ _,k0,k1,k2,s3,g1,g2⟩
 clear hb1 hS m10 m11 m12 m13 m2 k0 k1 k2 s3 g1 g2;go_wp2;go_region_held3 (fun wx=>Below W1.heap.size W1 wx/\wx.cell? ⟨kb,0,none⟩=some (.int .i64 z)/\wx.cell? ⟨kb,1,none⟩=some (.string fl)/\wx.cell? ⟨kb,2,none⟩=some (.string nm)/\wx.cell? ⟨bs,3,none⟩=some (.map (some ms))/\wx.frozen? ⟨kb,1,none⟩=false/\wx.frozen? ⟨kb,2,none⟩=false)
  (first
    | exact bW (by assumption) (aJ _)
    | exact bW (by assumption) (by assumption)
    | exact iI (by assumption)
    | exact iJ (by assumption)
    | exact bW (by assumption) (Below.refl _ _)
    | exact bW hT (aJ _))
  (first
    | (go_at_call_of 23 fl;refine (dJ _ _ hfl.out).mono ?_;rintro e w8⟨rfl,hb8⟩)
    | (go_at_call_of 23 nm;refine (dJ _ _ hnm.out).mono ?_;rintro e w8⟨rfl,hb8⟩))
 have hHeld:=(by assumption:Below W1.heap.size W1 _/\_)
 generalize (w8.setCell ⟨kb,1,none⟩ (.string fl)).setCell ⟨kb,2,none⟩ (.string nm)=W2 at hHeld ⊢;obtain⟨hb2,k0,k1,k2,s3,g1,g2⟩:=hHeld;have HS2:=hid (Ses.below_heap hb2 HS1.out);have HA2:=hid (Ses.below_heap hb2 HA1.out);have hr2:=Ses.below_heap hb2 HR1.out;have HB2:=hid hb2;have HM3:=hid (Ses.below_heap hb2 HM2.out);have r0:W2.cell? ⟨kb+1,0,none⟩=some _:=aA (i:=0) hr2;have r1:W2.cell? ⟨kb+1,1,none⟩=some _:=aA (i:=1) hr2;have r2:W2.cell? ⟨kb+1,2,none⟩=some _:=aA (i:=2) hr2;have hs2:=HS2.out;have ha2:=HA2.out;have e3:∀o,(W2.alloc o).cell? ⟨bs,3,none⟩=some (.map (some ms)):=fun o=>aA (i:=3) (aC o hs2);have f3:∀o,(W2.alloc o).frozen? ⟨bs,3,none⟩=false:=fun o=>aE (aC o hs2);have e0:∀o,(W2.alloc o).cell? ⟨kb,0,none⟩=some (.int .i64 z):=fun o=>aA (i:=0) (aC o ha2);have e1:∀o,(W2.alloc o).cell? ⟨kb,1,none⟩=some (.string fl):=fun o=>aA (i:=1) (aC o ha2);have e2:∀o,(W2.alloc o).cell? ⟨kb,2,none⟩=some (.string nm):=fun o=>aA (i:=2) (aC o ha2);have e33:∀o o',((W2.alloc o).alloc o').cell? ⟨bs,3,none⟩=some (.map (some ms)):=fun o o'=>aA (i:=3) (aC o' (aC o hs2));have f33:∀o o',((W2.alloc o).alloc o').frozen? ⟨bs,3,none⟩=false:=fun o o'=>aE (aC o' (aC o hs2));have hmn:∀W:World,(binOp .eql 58 (.map (some ms)) (.map none)).run Tryz.prog W = .ok (.bool false) W:=fun W=>run_eql_map_nil W 58 99 94 (some ms) Tryz.underlying58;clear hb2 hT hr2 g1 g2;go_wp2;have hsL:=aB hs2;have haL:=aB ha2;have hN:=aI W2 (.cells #[.pointer (some ⟨bs,1,none⟩),.int .i64 z,.string fl,.string nm,.bool false,.bool false,.slice none 0 0,.int .i64 (-1),.int .i64 0,.bool false,.int .i64 (-1),.int .u64 0,.func (.func F) #[.pointer (some ⟨bs,0,none⟩)] #[],.func (.func G) #[] #[],.string lo,.string ⟨#[]⟩] 175);have hP:=hid (sS (f:=f) (rv:=rv) (q:=q) (bg:=bg) (kv:=kv) (us:=us) hs2 ha2 HM3.out hN);generalize hW3:W2.alloc (.cells #[.pointer (some ⟨bs,1,none⟩),.int .i64 z,.string fl,.string nm,.bool false,.bool false,.slice none 0 0,.int .i64 (-1),.int .i64 0,.bool false,.int .i64 (-1),.int .u64 0,.func (.func F) #[.pointer (some ⟨bs,0,none⟩)] #[],.func (.func G) #[] #[],.string lo,.string ⟨#[]⟩] 175)=W3 at hP ⊢;clear hN hW3 e3 f3 e0 e1 e2 e33 f33 hmn k0 k1 k2 s3 r0 r1 r2 hs2 ha2;have q3:W3.cell? ⟨bs,3,none⟩=some (.map (some ms)):=aA (i:=3) hP.out.s;have k0:W3.cell? ⟨kb,0,none⟩=some (.int .i64 z):=aA (i:=0) hP.out.k;have k1:W3.cell? ⟨kb,1,none⟩=some (.string fl):=aA (i:=1) hP.out.k;have k2:W3.cell? ⟨kb,2,none⟩=some (.string nm):=aA (i:=2) hP.out.k;have hm3:=hP.out.m;have hst:=fun W=>HPT.out (.iface 165 (.pointer (some ⟨W2.heap.size,0,none⟩))) W;have hst0:=hst W3 hm3;have hst1:=hst W3.drew hm3;have hst2:=hst W3.drew.drew hm3;clear hst;go_region_with fail
 all_goals
  go_wp2;go_ret;refine⟨_,rfl,hP.out.fn ?_ (Nat.le_refl _) _⟩;have hw:Below w.heap.size w W:=HBL.out;exact (Ses.Fr.of_below hw).trans ((Ses.Fr.of_below HB1.out).trans (Ses.Fr.of_below HB2.out))
theorem Gl{f q bg kv:Value}{rv us:Int}(bs F G p:Nat)(sm:Value)(z:Int)(fl nm:ByteArray)(lo:ByteArray)(w:World)(hlk:∀w',Below w.heap.size w w'->(Instr.lookup 58 sm (.agg #[.int .i64 z,.string fl,.string nm]) false).run Tryz.prog w' = .ok (.iface 165 (.pointer (some ⟨p,0,none⟩))) w')(h3:w.heap[bs]? = some (.cells #[f,.int .i64 rv,q,sm,bg,kv,.int .u64 us] 66)) :
 Calls Tryz.prog 85 #[.pointer (some ⟨bs,1,none⟩),.agg #[.int .i64 z,.string fl,.string nm],.agg #[.func (.func F) #[.pointer (some ⟨bs,0,none⟩)] #[],.func (.func G) #[] #[],.string lo]] w fun e w'=>e = .returned (.pointer (some ⟨p,0,none⟩))/\Below w.heap.size w w':=by
 have HLK:=hid hlk;clear hlk;have m2:=fun (w:World) (xT:TypeId)=>(by kernel_rfl:(Instr.typeAssert (.iface 165 (.pointer (some ⟨p,0,none⟩))) xT 165 true).run Tryz.prog w = .ok (.tuple #[.pointer (some ⟨p,0,none⟩),.bool true]) w)
 have hA:=aI w (.cells #[.int .i64 z,.string fl,.string nm] 99);have hA2:=aC (.cells #[.func (.func F) #[.pointer (some ⟨bs,0,none⟩)] #[],.func (.func G) #[] #[],.string lo] 114) hA;have hR:=aI (w.alloc (.cells #[.int .i64 z,.string fl,.string nm] 99)) (.cells #[.func (.func F) #[.pointer (some ⟨bs,0,none⟩)] #[],.func (.func G) #[] #[],.string lo] 114);rw[show (w.alloc (.cells #[.int .i64 z,.string fl,.string nm] 99)).heap.size=w.heap.size+1 from by simp] at hR;have hS:=aC (.cells #[.func (.func F) #[.pointer (some ⟨bs,0,none⟩)] #[],.func (.func G) #[] #[],.string lo] 114) (aC (.cells #[.int .i64 z,.string fl,.string nm] 99) h3);have HBL:=hid (((Below.refl w.heap.size w).alloc (Nat.le_refl _) (.cells #[.int .i64 z,.string fl,.string nm] 99)).alloc (by simp) (.cells #[.func (.func F) #[.pointer (some ⟨bs,0,none⟩)] #[],.func (.func G) #[] #[],.string lo] 114));clear hA;go_enter Tryz.func85,Tryz.ntmps85;go_wp2_with fail
 generalize (w.alloc (.cells #[.int .i64 z,.string fl,.string nm] 99)).alloc (.cells #[.func (.func F) #[.pointer (some ⟨bs,0,none⟩)] #[],.func (.func G) #[] #[],.string lo] 114)=W at hA2 hR hS HBL ⊢;generalize hkb:w.heap.size=kb at hA2 hR ⊢;have k0:W.cell? ⟨kb,0,none⟩=some (.int .i64 z):=aA (i:=0) hA2;have k1:W.cell? ⟨kb,1,none⟩=some (.string fl):=aA (i:=1) hA2;have k2:W.cell? ⟨kb,2,none⟩=some (.string nm):=aA (i:=2) hA2;have s3:W.cell? ⟨bs,3,none⟩=some sm:=aA (i:=3) hS;have HS:=hid hS;have HA:=hid hA2;have HR:=hid hR;have HKB:=hid hkb;have hbk:bs<kb:=by have:=aB h3;omega
 clear hA2 hR hS h3 hkb;have hS:Below W.heap.size W W/\W.cell? ⟨kb,0,none⟩=some (.int .i64 z)/\W.cell? ⟨kb,1,none⟩=some (.string fl)/\W.cell? ⟨kb,2,none⟩=some (.string nm)/\W.cell? ⟨bs,3,none⟩=some sm:=⟨Below.refl _ _,k0,k1,k2,s3⟩
 clear k0 k1 k2 s3;have hbw:Below w.heap.size w W:=HBL.out;have m10:=HLK.out W hbw;have m11:=HLK.out W.drew (aF hbw (below_drewN _ 1));have m12:=HLK.out W.drew.drew (aF hbw (below_drewN _ 2));have m13:=HLK.out W.drew.drew.drew (aF hbw (below_drewN _ 3));clear hbw;go_region_held3 (fun wx=>Below W.heap.size W wx/\wx.cell? ⟨kb,0,none⟩=some (.int .i64 z)/\wx.cell? ⟨kb,1,none⟩=some (.string fl)/\wx.cell? ⟨kb,2,none⟩=some (.string nm)/\wx.cell? ⟨bs,3,none⟩=some sm)
  (first
    | exact bL (by assumption) (aJ _)
    | exact bL (by assumption) (Below.refl _ _)
    | exact bL hS (aJ _))
  (first|fail)
 have hHeld:=(by assumption:Below W.heap.size W _/\_)
 have hb1:=hHeld.1;clear hHeld hS m10 m11 m12 m13 m2;go_wp2;go_ret;have h9:=HKB.out;subst h9;exact⟨rfl,aF HBL.out hb1⟩
theorem Gm{f q bg kv:Value}{rv us:Int}(bs F G:Nat)(z:Int)(fl nm:ByteArray)(w:World)(hfl:Hid (fl.size<=cD))(hnm:Hid (nm.size<=cD))(hlk:∀w,(Instr.lookup 58 (.map none) (.agg #[.int .i64 z,.string fl,.string nm]) false).run Tryz.prog w = .ok .nilIface w)(hpt:∀(ms:Nat) (v:Value) (w:World),w.heap[ms]? = some (.map #[] 0)->(Instr.mapUpdate 58 (.map (some ms)) (.agg #[.int .i64 z,.string fl,.string nm]) v).run Tryz.prog w = .ok () (Ses.setO w ms (.map (#[].push {key:=.agg #[.int .i64 z,.string fl,.string nm],val:=v,born:=0}) (0+1))))(h3:w.heap[bs]? = some (.cells #[f,.int .i64 rv,q,.map none,bg,kv,.int .u64 us] 66)) :
 Calls Tryz.prog 93 #[.pointer (some ⟨bs,1,none⟩),.agg #[.int .i64 z,.string fl,.string nm],.agg #[.func (.func F) #[.pointer (some ⟨bs,0,none⟩)] #[],.func (.func G) #[] #[],.slice none 0 0]] w fun e w'=>∃p ms,e = .returned (.pointer (some ⟨p,0,none⟩))/\w.heap.size<=ms/\FN w w' bs p ms 0 #[] 181 178 f rv q bg kv us [.pointer (some ⟨bs,1,none⟩),.int .i64 z,.string fl,.string nm,.bool false,.bool false,.slice none 0 0,.int .i64 (-1),.int .i64 0,.bool false,.int .i64 (-1),.int .u64 0,.func (.func F) #[.pointer (some ⟨bs,0,none⟩)] #[],.func (.func G) #[] #[],.slice none 0 0,.slice none 0 0] (.agg #[.int .i64 z,.string fl,.string nm]):=by
 have m1:=hlk;have m2:=fun (w:World) (xT:TypeId)=>(by kernel_rfl:(Instr.typeAssert .nilIface xT 178 true).run Tryz.prog w = .ok (.tuple #[.pointer none,.bool false]) w)
 have hA:=aI w (.cells #[.int .i64 z,.string fl,.string nm] 99);have hA2:=aC (.cells #[.func (.func F) #[.pointer (some ⟨bs,0,none⟩)] #[],.func (.func G) #[] #[],.slice none 0 0] 131) hA;have hR:=aI (w.alloc (.cells #[.int .i64 z,.string fl,.string nm] 99)) (.cells #[.func (.func F) #[.pointer (some ⟨bs,0,none⟩)] #[],.func (.func G) #[] #[],.slice none 0 0] 131);rw[show (w.alloc (.cells #[.int .i64 z,.string fl,.string nm] 99)).heap.size=w.heap.size+1 from by simp] at hR;have hS:=aC (.cells #[.func (.func F) #[.pointer (some ⟨bs,0,none⟩)] #[],.func (.func G) #[] #[],.slice none 0 0] 131) (aC (.cells #[.int .i64 z,.string fl,.string nm] 99) h3);have HBL:=hid (((Below.refl w.heap.size w).alloc (Nat.le_refl _) (.cells #[.int .i64 z,.string fl,.string nm] 99)).alloc (by simp) (.cells #[.func (.func F) #[.pointer (some ⟨bs,0,none⟩)] #[],.func (.func G) #[] #[],.slice none 0 0] 131));clear hA;go_enter Tryz.func93,Tryz.ntmps93;go_wp2_with fail
 generalize (w.alloc (.cells #[.int .i64 z,.string fl,.string nm] 99)).alloc (.cells #[.func (.func F) #[.pointer (some ⟨bs,0,none⟩)] #[],.func (.func G) #[] #[],.slice none 0 0] 131)=W at hA2 hR hS HBL ⊢;generalize hkb:w.heap.size=kb at hA2 hR ⊢;have k0:W.cell? ⟨kb,0,none⟩=some (.int .i64 z):=aA (i:=0) hA2;have k1:W.cell? ⟨kb,1,none⟩=some (.string fl):=aA (i:=1) hA2;have k2:W.cell? ⟨kb,2,none⟩=some (.string nm):=aA (i:=2) hA2;have s3:W.cell? ⟨bs,3,none⟩=some (.map none):=aA (i:=3) hS;have HS:=hid hS;have HA:=hid hA2;have HR:=hid hR;have HKB:=hid hkb;have hbk:bs<kb:=by have:=aB h3;omega
 clear hA2 hR hS h3 hkb;have hS:Below W.heap.size W W/\W.cell? ⟨kb,0,none⟩=some (.int .i64 z)/\W.cell? ⟨kb,1,none⟩=some (.string fl)/\W.cell? ⟨kb,2,none⟩=some (.string nm)/\W.cell? ⟨bs,3,none⟩=some (.map none):=⟨Below.refl _ _,k0,k1,k2,s3⟩
 clear k0 k1 k2 s3;go_region_held3 (fun wx=>Below W.heap.size W wx/\wx.cell? ⟨kb,0,none⟩=some (.int .i64 z)/\wx.cell? ⟨kb,1,none⟩=some (.string fl)/\wx.cell? ⟨kb,2,none⟩=some (.string nm)/\wx.cell? ⟨bs,3,none⟩=some (.map none))
  (first
    | exact bL (by assumption) (aJ _)
    | exact bL (by assumption) (Below.refl _ _)
    | exact bL hS (aJ _))
  (first|fail)
 have hHeld:=(by assumption:Below W.heap.size W _/\_)
 generalize W.drew=W1 at hHeld ⊢;obtain⟨hb1,k0,k1,k2,s3⟩:=hHeld;have HS1:=hid (Ses.below_heap hb1 HS.out);have HA1:=hid (Ses.below_heap hb1 HA.out);have HR1:=hid (Ses.below_heap hb1 HR.out);have HB1:=hid hb1;have g1:W1.frozen? ⟨kb,1,none⟩=false:=aE HA1.out;have g2:W1.frozen? ⟨kb,2,none⟩=false:=aE HA1.out;have hT:pF W1 W1 kb bs fl nm (.int .i64 z) (.map none):=⟨Below.refl _ _,k0,k1,k2,s3,g1,g2⟩
 clear hb1 hS m1 m2 k0 k1 k2 s3 g1 g2;go_wp2;go_region_held3 (fun wx=>Below W1.heap.size W1 wx/\wx.cell? ⟨kb,0,none⟩=some (.int .i64 z)/\wx.cell? ⟨kb,1,none⟩=some (.string fl)/\wx.cell? ⟨kb,2,none⟩=some (.string nm)/\wx.cell? ⟨bs,3,none⟩=some (.map none)/\wx.frozen? ⟨kb,1,none⟩=false/\wx.frozen? ⟨kb,2,none⟩=false)
  (first
    | exact bW (by assumption) (aJ _)
    | exact bW (by assumption) (by assumption)
    | exact iI (by assumption)
    | exact iJ (by assumption)
    | exact bW (by assumption) (Below.refl _ _)
    | exact bW hT (aJ _))
  (first
    | (go_at_call_of 23 fl;refine (dJ _ _ hfl.out).mono ?_;rintro e w8⟨rfl,hb8⟩)
    | (go_at_call_of 23 nm;refine (dJ _ _ hnm.out).mono ?_;rintro e w8⟨rfl,hb8⟩))
 have hHeld:=(by assumption:Below W1.heap.size W1 _/\_)
 generalize (w8.setCell ⟨kb,1,none⟩ (.string fl)).setCell ⟨kb,2,none⟩ (.string nm)=W2 at hHeld ⊢;obtain⟨hb2,k0,k1,k2,s3,g1,g2⟩:=hHeld;have HS2:=hid (Ses.below_heap hb2 HS1.out);have HA2:=hid (Ses.below_heap hb2 HA1.out);have hr2:=Ses.below_heap hb2 HR1.out;have HB2:=hid hb2;have r0:W2.cell? ⟨kb+1,0,none⟩=some _:=aA (i:=0) hr2;have r1:W2.cell? ⟨kb+1,1,none⟩=some _:=aA (i:=1) hr2;have r2:W2.cell? ⟨kb+1,2,none⟩=some _:=aA (i:=2) hr2;have hs2:=HS2.out;have ha2:=HA2.out;have e3:∀o,(W2.alloc o).cell? ⟨bs,3,none⟩=some (.map none):=fun o=>aA (i:=3) (aC o hs2);have f3:∀o,(W2.alloc o).frozen? ⟨bs,3,none⟩=false:=fun o=>aE (aC o hs2);have e0:∀o,(W2.alloc o).cell? ⟨kb,0,none⟩=some (.int .i64 z):=fun o=>aA (i:=0) (aC o ha2);have e1:∀o,(W2.alloc o).cell? ⟨kb,1,none⟩=some (.string fl):=fun o=>aA (i:=1) (aC o ha2);have e2:∀o,(W2.alloc o).cell? ⟨kb,2,none⟩=some (.string nm):=fun o=>aA (i:=2) (aC o ha2);have e33:∀o o',((W2.alloc o).alloc o').cell? ⟨bs,3,none⟩=some (.map none):=fun o o'=>aA (i:=3) (aC o' (aC o hs2));have f33:∀o o',((W2.alloc o).alloc o').frozen? ⟨bs,3,none⟩=false:=fun o o'=>aE (aC o' (aC o hs2));have hmn:∀W:World,(binOp .eql 58 (.map none) (.map none)).run Tryz.prog W = .ok (.bool true) W:=fun W=>run_eql_map_nil W 58 99 94 none Tryz.underlying58;have hmk:∀W:World,(Instr.makeMap 58 none).run Tryz.prog W = .ok (.map (some W.heap.size)) (W.alloc (.map #[] 0)):=fun W=>@run_makeMap Tryz.prog 58 W;clear hb2 hT hr2 g1 g2;go_wp2;have hsL:=aB hs2;have haL:=aB ha2;have hN:=aI W2 (.cells #[.pointer (some ⟨bs,1,none⟩),.int .i64 z,.string fl,.string nm,.bool false,.bool false,.slice none 0 0,.int .i64 (-1),.int .i64 0,.bool false,.int .i64 (-1),.int .u64 0,.func (.func F) #[.pointer (some ⟨bs,0,none⟩)] #[],.func (.func G) #[] #[],.slice none 0 0,.slice none 0 0] 181);have hP:=hid (qC (f:=f) (rv:=rv) (q:=q) (bg:=bg) (kv:=kv) (us:=us) hs2 ha2 hN (by omega) rfl);generalize ((W2.alloc (.cells #[.pointer (some ⟨bs,1,none⟩),.int .i64 z,.string fl,.string nm,.bool false,.bool false,.slice none 0 0,.int .i64 (-1),.int .i64 0,.bool false,.int .i64 (-1),.int .u64 0,.func (.func F) #[.pointer (some ⟨bs,0,none⟩)] #[],.func (.func G) #[] #[],.slice none 0 0,.slice none 0 0] 181)).alloc (.map #[] 0)).setCell ⟨bs,3,none⟩ (.map (some (W2.heap.size+1)))=W3 at hP ⊢;clear hN e3 f3 e0 e1 e2 e33 f33 hmn hmk k0 k1 k2 s3 r0 r1 r2 hs2 ha2;have q3:W3.cell? ⟨bs,3,none⟩=some (.map (some (W2.heap.size+1))):=aA (i:=3) hP.out.s;have k0:W3.cell? ⟨kb,0,none⟩=some (.int .i64 z):=aA (i:=0) hP.out.k;have k1:W3.cell? ⟨kb,1,none⟩=some (.string fl):=aA (i:=1) hP.out.k;have k2:W3.cell? ⟨kb,2,none⟩=some (.string nm):=aA (i:=2) hP.out.k;have hm3:=hP.out.m;have hst:=fun W=>hpt (W2.heap.size+1) (.iface 178 (.pointer (some ⟨W2.heap.size,0,none⟩))) W;clear hpt;have hst0:=hst W3 hm3;have hst1:=hst W3.drew hm3;have hst2:=hst W3.drew.drew hm3;clear hst;go_region_with fail
 all_goals
  go_wp2;go_ret;refine⟨_,_,rfl,(by have:=HBL.out.size;have:=HB1.out.size;have:=HB2.out.size;omega),hP.out.fn ?_ (Nat.le_refl _) _⟩;have hw:Below w.heap.size w W:=HBL.out;exact (Ses.Fr.of_below hw).trans ((Ses.Fr.of_below HB1.out).trans (Ses.Fr.of_below HB2.out))

theorem Gn{f q bg kv:Value}{rv us:Int}(bs F G ms n:Nat)(es:Array MapEntry)(z:Int)(fl nm:ByteArray)(w:World)(hfl:Hid (fl.size<=cD))(hnm:Hid (nm.size<=cD))(hlk:∀w,w.heap[ms]? = some (.map es n)->(Instr.lookup 58 (.map (some ms)) (.agg #[.int .i64 z,.string fl,.string nm]) false).run Tryz.prog w = .ok .nilIface w)(hpt:∀(v:Value) (w:World),w.heap[ms]? = some (.map es n)->(Instr.mapUpdate 58 (.map (some ms)) (.agg #[.int .i64 z,.string fl,.string nm]) v).run Tryz.prog w = .ok () (Ses.setO w ms (.map (es.push {key:=.agg #[.int .i64 z,.string fl,.string nm],val:=v,born:=n}) (n+1))))(hM:w.heap[ms]? = some (.map es n))(h3:w.heap[bs]? = some (.cells #[f,.int .i64 rv,q,.map (some ms),bg,kv,.int .u64 us] 66)) :
 Calls Tryz.prog 93 #[.pointer (some ⟨bs,1,none⟩),.agg #[.int .i64 z,.string fl,.string nm],.agg #[.func (.func F) #[.pointer (some ⟨bs,0,none⟩)] #[],.func (.func G) #[] #[],.slice none 0 0]] w fun e w'=>∃p,e = .returned (.pointer (some ⟨p,0,none⟩))/\FN w w' bs p ms n es 181 178 f rv q bg kv us [.pointer (some ⟨bs,1,none⟩),.int .i64 z,.string fl,.string nm,.bool false,.bool false,.slice none 0 0,.int .i64 (-1),.int .i64 0,.bool false,.int .i64 (-1),.int .u64 0,.func (.func F) #[.pointer (some ⟨bs,0,none⟩)] #[],.func (.func G) #[] #[],.slice none 0 0,.slice none 0 0] (.agg #[.int .i64 z,.string fl,.string nm]):=by
 have HLK:=hid hlk;have HPT:=hid hpt;clear hlk hpt;have m2:=fun (w:World) (xT:TypeId)=>(by kernel_rfl:(Instr.typeAssert .nilIface xT 178 true).run Tryz.prog w = .ok (.tuple #[.pointer none,.bool false]) w)
 have hA:=aI w (.cells #[.int .i64 z,.string fl,.string nm] 99);have hA2:=aC (.cells #[.func (.func F) #[.pointer (some ⟨bs,0,none⟩)] #[],.func (.func G) #[] #[],.slice none 0 0] 131) hA;have hR:=aI (w.alloc (.cells #[.int .i64 z,.string fl,.string nm] 99)) (.cells #[.func (.func F) #[.pointer (some ⟨bs,0,none⟩)] #[],.func (.func G) #[] #[],.slice none 0 0] 131);rw[show (w.alloc (.cells #[.int .i64 z,.string fl,.string nm] 99)).heap.size=w.heap.size+1 from by simp] at hR;have hS:=aC (.cells #[.func (.func F) #[.pointer (some ⟨bs,0,none⟩)] #[],.func (.func G) #[] #[],.slice none 0 0] 131) (aC (.cells #[.int .i64 z,.string fl,.string nm] 99) h3);have HBL:=hid (((Below.refl w.heap.size w).alloc (Nat.le_refl _) (.cells #[.int .i64 z,.string fl,.string nm] 99)).alloc (by simp) (.cells #[.func (.func F) #[.pointer (some ⟨bs,0,none⟩)] #[],.func (.func G) #[] #[],.slice none 0 0] 131));have HM1:=hid (aC (.cells #[.func (.func F) #[.pointer (some ⟨bs,0,none⟩)] #[],.func (.func G) #[] #[],.slice none 0 0] 131) (aC (.cells #[.int .i64 z,.string fl,.string nm] 99) hM));clear hM;clear hA;go_enter Tryz.func93,Tryz.ntmps93;go_wp2_with fail
 generalize (w.alloc (.cells #[.int .i64 z,.string fl,.string nm] 99)).alloc (.cells #[.func (.func F) #[.pointer (some ⟨bs,0,none⟩)] #[],.func (.func G) #[] #[],.slice none 0 0] 131)=W at hA2 hR hS HBL HM1 ⊢;generalize hkb:w.heap.size=kb at hA2 hR ⊢;have k0:W.cell? ⟨kb,0,none⟩=some (.int .i64 z):=aA (i:=0) hA2;have k1:W.cell? ⟨kb,1,none⟩=some (.string fl):=aA (i:=1) hA2;have k2:W.cell? ⟨kb,2,none⟩=some (.string nm):=aA (i:=2) hA2;have s3:W.cell? ⟨bs,3,none⟩=some (.map (some ms)):=aA (i:=3) hS;have HS:=hid hS;have HA:=hid hA2;have HR:=hid hR;have HKB:=hid hkb;have hbk:bs<kb:=by have:=aB h3;omega
 clear hA2 hR hS h3 hkb;have hS:Below W.heap.size W W/\W.cell? ⟨kb,0,none⟩=some (.int .i64 z)/\W.cell? ⟨kb,1,none⟩=some (.string fl)/\W.cell? ⟨kb,2,none⟩=some (.string nm)/\W.cell? ⟨bs,3,none⟩=some (.map (some ms)):=⟨Below.refl _ _,k0,k1,k2,s3⟩
 clear k0 k1 k2 s3;have m10:=HLK.out W HM1.out;have m11:=HLK.out W.drew HM1.out;have m12:=HLK.out W.drew.drew HM1.out;have m13:=HLK.out W.drew.drew.drew HM1.out;go_region_held3 (fun wx=>Below W.heap.size W wx/\wx.cell? ⟨kb,0,none⟩=some (.int .i64 z)/\wx.cell? ⟨kb,1,none⟩=some (.string fl)/\wx.cell? ⟨kb,2,none⟩=some (.string nm)/\wx.cell? ⟨bs,3,none⟩=some (.map (some ms)))
  (first
    | exact bL (by assumption) (aJ _)
    | exact bL (by assumption) (Below.refl _ _)
    | exact bL hS (aJ _))
  (first|fail)
 have hHeld:=(by assumption:Below W.heap.size W _/\_)
 generalize W.drew=W1 at hHeld ⊢;obtain⟨hb1,k0,k1,k2,s3⟩:=hHeld;have HS1:=hid (Ses.below_heap hb1 HS.out);have HA1:=hid (Ses.below_heap hb1 HA.out);have HR1:=hid (Ses.below_heap hb1 HR.out);have HB1:=hid hb1;have HM2:=hid (Ses.below_heap hb1 HM1.out);have g1:W1.frozen? ⟨kb,1,none⟩=false:=aE HA1.out;have g2:W1.frozen? ⟨kb,2,none⟩=false:=aE HA1.out;have hT:pF W1 W1 kb bs fl nm (.int .i64 z) (.map (some ms)):=⟨Below.refl _ _,k0,k1,k2,s3,g1,g2⟩
 clear hb1 hS m10 m11 m12 m13 m2 k0 k1 k2 s3 g1 g2;go_wp2;go_region_held3 (fun wx=>Below W1.heap.size W1 wx/\wx.cell? ⟨kb,0,none⟩=some (.int .i64 z)/\wx.cell? ⟨kb,1,none⟩=some (.string fl)/\wx.cell? ⟨kb,2,none⟩=some (.string nm)/\wx.cell? ⟨bs,3,none⟩=some (.map (some ms))/\wx.frozen? ⟨kb,1,none⟩=false/\wx.frozen? ⟨kb,2,none⟩=false)
  (first
    | exact bW (by assumption) (aJ _)
    | exact bW (by assumption) (by assumption)
    | exact iI (by assumption)
    | exact iJ (by assumption)
    | exact bW (by assumption) (Below.refl _ _)
    | exact bW hT (aJ _))
  (first
    | (go_at_call_of 23 fl;refine (dJ _ _ hfl.out).mono ?_;rintro e w8⟨rfl,hb8⟩)
    | (go_at_call_of 23 nm;refine (dJ _ _ hnm.out).mono ?_;rintro e w8⟨rfl,hb8⟩))
 have hHeld:=(by assumption:Below W1.heap.size W1 _/\_)
 generalize (w8.setCell ⟨kb,1,none⟩ (.string fl)).setCell ⟨kb,2,none⟩ (.string nm)=W2 at hHeld ⊢;obtain⟨hb2,k0,k1,k2,s3,g1,g2⟩:=hHeld;have HS2:=hid (Ses.below_heap hb2 HS1.out);have HA2:=hid (Ses.below_heap hb2 HA1.out);have hr2:=Ses.below_heap hb2 HR1.out;have HB2:=hid hb2;have HM3:=hid (Ses.below_heap hb2 HM2.out);have r0:W2.cell? ⟨kb+1,0,none⟩=some _:=aA (i:=0) hr2;have r1:W2.cell? ⟨kb+1,1,none⟩=some _:=aA (i:=1) hr2;have r2:W2.cell? ⟨kb+1,2,none⟩=some _:=aA (i:=2) hr2;have hs2:=HS2.out;have ha2:=HA2.out;have e3:∀o,(W2.alloc o).cell? ⟨bs,3,none⟩=some (.map (some ms)):=fun o=>aA (i:=3) (aC o hs2);have f3:∀o,(W2.alloc o).frozen? ⟨bs,3,none⟩=false:=fun o=>aE (aC o hs2);have e0:∀o,(W2.alloc o).cell? ⟨kb,0,none⟩=some (.int .i64 z):=fun o=>aA (i:=0) (aC o ha2);have e1:∀o,(W2.alloc o).cell? ⟨kb,1,none⟩=some (.string fl):=fun o=>aA (i:=1) (aC o ha2);have e2:∀o,(W2.alloc o).cell? ⟨kb,2,none⟩=some (.string nm):=fun o=>aA (i:=2) (aC o ha2);have e33:∀o o',((W2.alloc o).alloc o').cell? ⟨bs,3,none⟩=some (.map (some ms)):=fun o o'=>aA (i:=3) (aC o' (aC o hs2));have f33:∀o o',((W2.alloc o).alloc o').frozen? ⟨bs,3,none⟩=false:=fun o o'=>aE (aC o' (aC o hs2));have hmn:∀W:World,(binOp .eql 58 (.map (some ms)) (.map none)).run Tryz.prog W = .ok (.bool false) W:=fun W=>run_eql_map_nil W 58 99 94 (some ms) Tryz.underlying58;clear hb2 hT hr2 g1 g2;go_wp2;have hsL:=aB hs2;have haL:=aB ha2;have hN:=aI W2 (.cells #[.pointer (some ⟨bs,1,none⟩),.int .i64 z,.string fl,.string nm,.bool false,.bool false,.slice none 0 0,.int .i64 (-1),.int .i64 0,.bool false,.int .i64 (-1),.int .u64 0,.func (.func F) #[.pointer (some ⟨bs,0,none⟩)] #[],.func (.func G) #[] #[],.slice none 0 0,.slice none 0 0] 181);have hP:=hid (sS (f:=f) (rv:=rv) (q:=q) (bg:=bg) (kv:=kv) (us:=us) hs2 ha2 HM3.out hN);generalize hW3:W2.alloc (.cells #[.pointer (some ⟨bs,1,none⟩),.int .i64 z,.string fl,.string nm,.bool false,.bool false,.slice none 0 0,.int .i64 (-1),.int .i64 0,.bool false,.int .i64 (-1),.int .u64 0,.func (.func F) #[.pointer (some ⟨bs,0,none⟩)] #[],.func (.func G) #[] #[],.slice none 0 0,.slice none 0 0] 181)=W3 at hP ⊢;clear hN hW3 e3 f3 e0 e1 e2 e33 f33 hmn k0 k1 k2 s3 r0 r1 r2 hs2 ha2;have q3:W3.cell? ⟨bs,3,none⟩=some (.map (some ms)):=aA (i:=3) hP.out.s;have k0:W3.cell? ⟨kb,0,none⟩=some (.int .i64 z):=aA (i:=0) hP.out.k;have k1:W3.cell? ⟨kb,1,none⟩=some (.string fl):=aA (i:=1) hP.out.k;have k2:W3.cell? ⟨kb,2,none⟩=some (.string nm):=aA (i:=2) hP.out.k;have hm3:=hP.out.m;have hst:=fun W=>HPT.out (.iface 178 (.pointer (some ⟨W2.heap.size,0,none⟩))) W;have hst0:=hst W3 hm3;have hst1:=hst W3.drew hm3;have hst2:=hst W3.drew.drew hm3;clear hst;go_region_with fail
 all_goals
  go_wp2;go_ret;refine⟨_,rfl,hP.out.fn ?_ (Nat.le_refl _) _⟩;have hw:Below w.heap.size w W:=HBL.out;exact (Ses.Fr.of_below hw).trans ((Ses.Fr.of_below HB1.out).trans (Ses.Fr.of_below HB2.out))
theorem Gp{f q bg kv:Value}{rv us:Int}(bs F G p:Nat)(sm:Value)(z:Int)(fl nm:ByteArray)(w:World)(hlk:∀w',Below w.heap.size w w'->(Instr.lookup 58 sm (.agg #[.int .i64 z,.string fl,.string nm]) false).run Tryz.prog w' = .ok (.iface 178 (.pointer (some ⟨p,0,none⟩))) w')(h3:w.heap[bs]? = some (.cells #[f,.int .i64 rv,q,sm,bg,kv,.int .u64 us] 66)) :
 Calls Tryz.prog 93 #[.pointer (some ⟨bs,1,none⟩),.agg #[.int .i64 z,.string fl,.string nm],.agg #[.func (.func F) #[.pointer (some ⟨bs,0,none⟩)] #[],.func (.func G) #[] #[],.slice none 0 0]] w fun e w'=>e = .returned (.pointer (some ⟨p,0,none⟩))/\Below w.heap.size w w':=by
 have HLK:=hid hlk;clear hlk;have m2:=fun (w:World) (xT:TypeId)=>(by kernel_rfl:(Instr.typeAssert (.iface 178 (.pointer (some ⟨p,0,none⟩))) xT 178 true).run Tryz.prog w = .ok (.tuple #[.pointer (some ⟨p,0,none⟩),.bool true]) w)
 have hA:=aI w (.cells #[.int .i64 z,.string fl,.string nm] 99);have hA2:=aC (.cells #[.func (.func F) #[.pointer (some ⟨bs,0,none⟩)] #[],.func (.func G) #[] #[],.slice none 0 0] 131) hA;have hR:=aI (w.alloc (.cells #[.int .i64 z,.string fl,.string nm] 99)) (.cells #[.func (.func F) #[.pointer (some ⟨bs,0,none⟩)] #[],.func (.func G) #[] #[],.slice none 0 0] 131);rw[show (w.alloc (.cells #[.int .i64 z,.string fl,.string nm] 99)).heap.size=w.heap.size+1 from by simp] at hR;have hS:=aC (.cells #[.func (.func F) #[.pointer (some ⟨bs,0,none⟩)] #[],.func (.func G) #[] #[],.slice none 0 0] 131) (aC (.cells #[.int .i64 z,.string fl,.string nm] 99) h3);have HBL:=hid (((Below.refl w.heap.size w).alloc (Nat.le_refl _) (.cells #[.int .i64 z,.string fl,.string nm] 99)).alloc (by simp) (.cells #[.func (.func F) #[.pointer (some ⟨bs,0,none⟩)] #[],.func (.func G) #[] #[],.slice none 0 0] 131));clear hA;go_enter Tryz.func93,Tryz.ntmps93;go_wp2_with fail
 generalize (w.alloc (.cells #[.int .i64 z,.string fl,.string nm] 99)).alloc (.cells #[.func (.func F) #[.pointer (some ⟨bs,0,none⟩)] #[],.func (.func G) #[] #[],.slice none 0 0] 131)=W at hA2 hR hS HBL ⊢;generalize hkb:w.heap.size=kb at hA2 hR ⊢;have k0:W.cell? ⟨kb,0,none⟩=some (.int .i64 z):=aA (i:=0) hA2;have k1:W.cell? ⟨kb,1,none⟩=some (.string fl):=aA (i:=1) hA2;have k2:W.cell? ⟨kb,2,none⟩=some (.string nm):=aA (i:=2) hA2;have s3:W.cell? ⟨bs,3,none⟩=some sm:=aA (i:=3) hS;have HS:=hid hS;have HA:=hid hA2;have HR:=hid hR;have HKB:=hid hkb;have hbk:bs<kb:=by have:=aB h3;omega
 clear hA2 hR hS h3 hkb;have hS:Below W.heap.size W W/\W.cell? ⟨kb,0,none⟩=some (.int .i64 z)/\W.cell? ⟨kb,1,none⟩=some (.string fl)/\W.cell? ⟨kb,2,none⟩=some (.string nm)/\W.cell? ⟨bs,3,none⟩=some sm:=⟨Below.refl _ _,k0,k1,k2,s3⟩
 clear k0 k1 k2 s3;have hbw:Below w.heap.size w W:=HBL.out;have m10:=HLK.out W hbw;have m11:=HLK.out W.drew (aF hbw (below_drewN _ 1));have m12:=HLK.out W.drew.drew (aF hbw (below_drewN _ 2));have m13:=HLK.out W.drew.drew.drew (aF hbw (below_drewN _ 3));clear hbw;go_region_held3 (fun wx=>Below W.heap.size W wx/\wx.cell? ⟨kb,0,none⟩=some (.int .i64 z)/\wx.cell? ⟨kb,1,none⟩=some (.string fl)/\wx.cell? ⟨kb,2,none⟩=some (.string nm)/\wx.cell? ⟨bs,3,none⟩=some sm)
  (first
    | exact bL (by assumption) (aJ _)
    | exact bL (by assumption) (Below.refl _ _)
    | exact bL hS (aJ _))
  (first|fail)
 have hHeld:=(by assumption:Below W.heap.size W _/\_)
 have hb1:=hHeld.1;clear hHeld hS m10 m11 m12 m13 m2;go_wp2;go_ret;have h9:=HKB.out;subst h9;exact⟨rfl,aF HBL.out hb1⟩
theorem Gq{f q bg kv:Value}{rv us:Int}(bs F G:Nat)(z:Int)(fl nm:ByteArray)(w:World)(hfl:Hid (fl.size<=cD))(hnm:Hid (nm.size<=cD))(hlk:∀w,(Instr.lookup 58 (.map none) (.agg #[.int .i64 z,.string fl,.string nm]) false).run Tryz.prog w = .ok .nilIface w)(hpt:∀(ms:Nat) (v:Value) (w:World),w.heap[ms]? = some (.map #[] 0)->(Instr.mapUpdate 58 (.map (some ms)) (.agg #[.int .i64 z,.string fl,.string nm]) v).run Tryz.prog w = .ok () (Ses.setO w ms (.map (#[].push {key:=.agg #[.int .i64 z,.string fl,.string nm],val:=v,born:=0}) (0+1))))(h3:w.heap[bs]? = some (.cells #[f,.int .i64 rv,q,.map none,bg,kv,.int .u64 us] 66)) :
 Calls Tryz.prog 99 #[.pointer (some ⟨bs,1,none⟩),.agg #[.int .i64 z,.string fl,.string nm],.agg #[.func (.func F) #[.pointer (some ⟨bs,0,none⟩)] #[],.func (.func G) #[] #[],.slice none 0 0]] w fun e w'=>∃p ms,e = .returned (.pointer (some ⟨p,0,none⟩))/\w.heap.size<=ms/\FN w w' bs p ms 0 #[] 192 189 f rv q bg kv us [.pointer (some ⟨bs,1,none⟩),.int .i64 z,.string fl,.string nm,.bool false,.bool false,.slice none 0 0,.int .i64 (-1),.int .i64 0,.bool false,.int .i64 (-1),.int .u64 0,.func (.func F) #[.pointer (some ⟨bs,0,none⟩)] #[],.func (.func G) #[] #[],.slice none 0 0,.slice none 0 0] (.agg #[.int .i64 z,.string fl,.string nm]):=by
 have m1:=hlk;have m2:=fun (w:World) (xT:TypeId)=>(by kernel_rfl:(Instr.typeAssert .nilIface xT 189 true).run Tryz.prog w = .ok (.tuple #[.pointer none,.bool false]) w)
 have hA:=aI w (.cells #[.int .i64 z,.string fl,.string nm] 99);have hA2:=aC (.cells #[.func (.func F) #[.pointer (some ⟨bs,0,none⟩)] #[],.func (.func G) #[] #[],.slice none 0 0] 147) hA;have hR:=aI (w.alloc (.cells #[.int .i64 z,.string fl,.string nm] 99)) (.cells #[.func (.func F) #[.pointer (some ⟨bs,0,none⟩)] #[],.func (.func G) #[] #[],.slice none 0 0] 147);rw[show (w.alloc (.cells #[.int .i64 z,.string fl,.string nm] 99)).heap.size=w.heap.size+1 from by simp] at hR;have hS:=aC (.cells #[.func (.func F) #[.pointer (some ⟨bs,0,none⟩)] #[],.func (.func G) #[] #[],.slice none 0 0] 147) (aC (.cells #[.int .i64 z,.string fl,.string nm] 99) h3);have HBL:=hid (((Below.refl w.heap.size w).alloc (Nat.le_refl _) (.cells #[.int .i64 z,.string fl,.string nm] 99)).alloc (by simp) (.cells #[.func (.func F) #[.pointer (some ⟨bs,0,none⟩)] #[],.func (.func G) #[] #[],.slice none 0 0] 147));clear hA;go_enter Tryz.func99,Tryz.ntmps99;go_wp2_with fail
 generalize (w.alloc (.cells #[.int .i64 z,.string fl,.string nm] 99)).alloc (.cells #[.func (.func F) #[.pointer (some ⟨bs,0,none⟩)] #[],.func (.func G) #[] #[],.slice none 0 0] 147)=W at hA2 hR hS HBL ⊢;generalize hkb:w.heap.size=kb at hA2 hR ⊢;have k0:W.cell? ⟨kb,0,none⟩=some (.int .i64 z):=aA (i:=0) hA2;have k1:W.cell? ⟨kb,1,none⟩=some (.string fl):=aA (i:=1) hA2;have k2:W.cell? ⟨kb,2,none⟩=some (.string nm):=aA (i:=2) hA2;have s3:W.cell? ⟨bs,3,none⟩=some (.map none):=aA (i:=3) hS;have HS:=hid hS;have HA:=hid hA2;have HR:=hid hR;have HKB:=hid hkb;have hbk:bs<kb:=by have:=aB h3;omega
 clear hA2 hR hS h3 hkb;have hS:Below W.heap.size W W/\W.cell? ⟨kb,0,none⟩=some (.int .i64 z)/\W.cell? ⟨kb,1,none⟩=some (.string fl)/\W.cell? ⟨kb,2,none⟩=some (.string nm)/\W.cell? ⟨bs,3,none⟩=some (.map none):=⟨Below.refl _ _,k0,k1,k2,s3⟩
 clear k0 k1 k2 s3;go_region_held3 (fun wx=>Below W.heap.size W wx/\wx.cell? ⟨kb,0,none⟩=some (.int .i64 z)/\wx.cell? ⟨kb,1,none⟩=some (.string fl)/\wx.cell? ⟨kb,2,none⟩=some (.string nm)/\wx.cell? ⟨bs,3,none⟩=some (.map none))
  (first
    | exact bL (by assumption) (aJ _)
    | exact bL (by assumption) (Below.refl _ _)
    | exact bL hS (aJ _))
  (first|fail)
 have hHeld:=(by assumption:Below W.heap.size W _/\_)
 generalize W.drew=W1 at hHeld ⊢;obtain⟨hb1,k0,k1,k2,s3⟩:=hHeld;have HS1:=hid (Ses.below_heap hb1 HS.out);have HA1:=hid (Ses.below_heap hb1 HA.out);have HR1:=hid (Ses.below_heap hb1 HR.out);have HB1:=hid hb1;have g1:W1.frozen? ⟨kb,1,none⟩=false:=aE HA1.out;have g2:W1.frozen? ⟨kb,2,none⟩=false:=aE HA1.out;have hT:pF W1 W1 kb bs fl nm (.int .i64 z) (.map none):=⟨Below.refl _ _,k0,k1,k2,s3,g1,g2⟩
 clear hb1 hS m1 m2 k0 k1 k2 s3 g1 g2;go_wp2;go_region_held3 (fun wx=>Below W1.heap.size W1 wx/\wx.cell? ⟨kb,0,none⟩=some (.int .i64 z)/\wx.cell? ⟨kb,1,none⟩=some (.string fl)/\wx.cell? ⟨kb,2,none⟩=some (.string nm)/\wx.cell? ⟨bs,3,none⟩=some (.map none)/\wx.frozen? ⟨kb,1,none⟩=false/\wx.frozen? ⟨kb,2,none⟩=false)
  (first
    | exact bW (by assumption) (aJ _)
    | exact bW (by assumption) (by assumption)
    | exact iI (by assumption)
    | exact iJ (by assumption)
    | exact bW (by assumption) (Below.refl _ _)
    | exact bW hT (aJ _))
  (first
    | (go_at_call_of 23 fl;refine (dJ _ _ hfl.out).mono ?_;rintro e w8⟨rfl,hb8⟩)
    | (go_at_call_of 23 nm;refine (dJ _ _ hnm.out).mono ?_;rintro e w8⟨rfl,hb8⟩))
 have hHeld:=(by assumption:Below W1.heap.size W1 _/\_)
 generalize (w8.setCell ⟨kb,1,none⟩ (.string fl)).setCell ⟨kb,2,none⟩ (.string nm)=W2 at hHeld ⊢;obtain⟨hb2,k0,k1,k2,s3,g1,g2⟩:=hHeld;have HS2:=hid (Ses.below_heap hb2 HS1.out);have HA2:=hid (Ses.below_heap hb2 HA1.out);have hr2:=Ses.below_heap hb2 HR1.out;have HB2:=hid hb2;have r0:W2.cell? ⟨kb+1,0,none⟩=some _:=aA (i:=0) hr2;have r1:W2.cell? ⟨kb+1,1,none⟩=some _:=aA (i:=1) hr2;have r2:W2.cell? ⟨kb+1,2,none⟩=some _:=aA (i:=2) hr2;have hs2:=HS2.out;have ha2:=HA2.out;have e3:∀o,(W2.alloc o).cell? ⟨bs,3,none⟩=some (.map none):=fun o=>aA (i:=3) (aC o hs2);have f3:∀o,(W2.alloc o).frozen? ⟨bs,3,none⟩=false:=fun o=>aE (aC o hs2);have e0:∀o,(W2.alloc o).cell? ⟨kb,0,none⟩=some (.int .i64 z):=fun o=>aA (i:=0) (aC o ha2);have e1:∀o,(W2.alloc o).cell? ⟨kb,1,none⟩=some (.string fl):=fun o=>aA (i:=1) (aC o ha2);have e2:∀o,(W2.alloc o).cell? ⟨kb,2,none⟩=some (.string nm):=fun o=>aA (i:=2) (aC o ha2);have e33:∀o o',((W2.alloc o).alloc o').cell? ⟨bs,3,none⟩=some (.map none):=fun o o'=>aA (i:=3) (aC o' (aC o hs2));have f33:∀o o',((W2.alloc o).alloc o').frozen? ⟨bs,3,none⟩=false:=fun o o'=>aE (aC o' (aC o hs2));have hmn:∀W:World,(binOp .eql 58 (.map none) (.map none)).run Tryz.prog W = .ok (.bool true) W:=fun W=>run_eql_map_nil W 58 99 94 none Tryz.underlying58;have hmk:∀W:World,(Instr.makeMap 58 none).run Tryz.prog W = .ok (.map (some W.heap.size)) (W.alloc (.map #[] 0)):=fun W=>@run_makeMap Tryz.prog 58 W;clear hb2 hT hr2 g1 g2;go_wp2;have hsL:=aB hs2;have haL:=aB ha2;have hN:=aI W2 (.cells #[.pointer (some ⟨bs,1,none⟩),.int .i64 z,.string fl,.string nm,.bool false,.bool false,.slice none 0 0,.int .i64 (-1),.int .i64 0,.bool false,.int .i64 (-1),.int .u64 0,.func (.func F) #[.pointer (some ⟨bs,0,none⟩)] #[],.func (.func G) #[] #[],.slice none 0 0,.slice none 0 0] 192);have hP:=hid (qC (f:=f) (rv:=rv) (q:=q) (bg:=bg) (kv:=kv) (us:=us) hs2 ha2 hN (by omega) rfl);generalize ((W2.alloc (.cells #[.pointer (some ⟨bs,1,none⟩),.int .i64 z,.string fl,.string nm,.bool false,.bool false,.slice none 0 0,.int .i64 (-1),.int .i64 0,.bool false,.int .i64 (-1),.int .u64 0,.func (.func F) #[.pointer (some ⟨bs,0,none⟩)] #[],.func (.func G) #[] #[],.slice none 0 0,.slice none 0 0] 192)).alloc (.map #[] 0)).setCell ⟨bs,3,none⟩ (.map (some (W2.heap.size+1)))=W3 at hP ⊢;clear hN e3 f3 e0 e1 e2 e33 f33 hmn hmk k0 k1 k2 s3 r0 r1 r2 hs2 ha2;have q3:W3.cell? ⟨bs,3,none⟩=some (.map (some (W2.heap.size+1))):=aA (i:=3) hP.out.s;have k0:W3.cell? ⟨kb,0,none⟩=some (.int .i64 z):=aA (i:=0) hP.out.k;have k1:W3.cell? ⟨kb,1,none⟩=some (.string fl):=aA (i:=1) hP.out.k;have k2:W3.cell? ⟨kb,2,none⟩=some (.string nm):=aA (i:=2) hP.out.k;have hm3:=hP.out.m;have hst:=fun W=>hpt (W2.heap.size+1) (.iface 189 (.pointer (some ⟨W2.heap.size,0,none⟩))) W;clear hpt;have hst0:=hst W3 hm3;have hst1:=hst W3.drew hm3;have hst2:=hst W3.drew.drew hm3;clear hst;go_region_with fail
 all_goals
  go_wp2;go_ret;refine⟨_,_,rfl,(by have:=HBL.out.size;have:=HB1.out.size;have:=HB2.out.size;omega),hP.out.fn ?_ (Nat.le_refl _) _⟩;have hw:Below w.heap.size w W:=HBL.out;exact (Ses.Fr.of_below hw).trans ((Ses.Fr.of_below HB1.out).trans (Ses.Fr.of_below HB2.out))
theorem Gr{f q bg kv:Value}{rv us:Int}(bs F G ms n:Nat)(es:Array MapEntry)(z:Int)(fl nm:ByteArray)(w:World)(hfl:Hid (fl.size<=cD))(hnm:Hid (nm.size<=cD))(hlk:∀w,w.heap[ms]? = some (.map es n)->(Instr.lookup 58 (.map (some ms)) (.agg #[.int .i64 z,.string fl,.string nm]) false).run Tryz.prog w = .ok .nilIface w)(hpt:∀(v:Value) (w:World),w.heap[ms]? = some (.map es n)->(Instr.mapUpdate 58 (.map (some ms)) (.agg #[.int .i64 z,.string fl,.string nm]) v).run Tryz.prog w = .ok () (Ses.setO w ms (.map (es.push {key:=.agg #[.int .i64 z,.string fl,.string nm],val:=v,born:=n}) (n+1))))(hM:w.heap[ms]? = some (.map es n))(h3:w.heap[bs]? = some (.cells #[f,.int .i64 rv,q,.map (some ms),bg,kv,.int .u64 us] 66)) :
 Calls Tryz.prog 99 #[.pointer (some ⟨bs,1,none⟩),.agg #[.int .i64 z,.string fl,.string nm],.agg #[.func (.func F) #[.pointer (some ⟨bs,0,none⟩)] #[],.func (.func G) #[] #[],.slice none 0 0]] w fun e w'=>∃p,e = .returned (.pointer (some ⟨p,0,none⟩))/\FN w w' bs p ms n es 192 189 f rv q bg kv us [.pointer (some ⟨bs,1,none⟩),.int .i64 z,.string fl,.string nm,.bool false,.bool false,.slice none 0 0,.int .i64 (-1),.int .i64 0,.bool false,.int .i64 (-1),.int .u64 0,.func (.func F) #[.pointer (some ⟨bs,0,none⟩)] #[],.func (.func G) #[] #[],.slice none 0 0,.slice none 0 0] (.agg #[.int .i64 z,.string fl,.string nm]):=by
 have HLK:=hid hlk;have HPT:=hid hpt;clear hlk hpt;have m2:=fun (w:World) (xT:TypeId)=>(by kernel_rfl:(Instr.typeAssert .nilIface xT 189 true).run Tryz.prog w = .ok (.tuple #[.pointer none,.bool false]) w)
 have hA:=aI w (.cells #[.int .i64 z,.string fl,.string nm] 99);have hA2:=aC (.cells #[.func (.func F) #[.pointer (some ⟨bs,0,none⟩)] #[],.func (.func G) #[] #[],.slice none 0 0] 147) hA;have hR:=aI (w.alloc (.cells #[.int .i64 z,.string fl,.string nm] 99)) (.cells #[.func (.func F) #[.pointer (some ⟨bs,0,none⟩)] #[],.func (.func G) #[] #[],.slice none 0 0] 147);rw[show (w.alloc (.cells #[.int .i64 z,.string fl,.string nm] 99)).heap.size=w.heap.size+1 from by simp] at hR;have hS:=aC (.cells #[.func (.func F) #[.pointer (some ⟨bs,0,none⟩)] #[],.func (.func G) #[] #[],.slice none 0 0] 147) (aC (.cells #[.int .i64 z,.string fl,.string nm] 99) h3);have HBL:=hid (((Below.refl w.heap.size w).alloc (Nat.le_refl _) (.cells #[.int .i64 z,.string fl,.string nm] 99)).alloc (by simp) (.cells #[.func (.func F) #[.pointer (some ⟨bs,0,none⟩)] #[],.func (.func G) #[] #[],.slice none 0 0] 147));have HM1:=hid (aC (.cells #[.func (.func F) #[.pointer (some ⟨bs,0,none⟩)] #[],.func (.func G) #[] #[],.slice none 0 0] 147) (aC (.cells #[.int .i64 z,.string fl,.string nm] 99) hM));clear hM;clear hA;go_enter Tryz.func99,Tryz.ntmps99;go_wp2_with fail
 generalize (w.alloc (.cells #[.int .i64 z,.string fl,.string nm] 99)).alloc (.cells #[.func (.func F) #[.pointer (some ⟨bs,0,none⟩)] #[],.func (.func G) #[] #[],.slice none 0 0] 147)=W at hA2 hR hS HBL HM1 ⊢;generalize hkb:w.heap.size=kb at hA2 hR ⊢;have k0:W.cell? ⟨kb,0,none⟩=some (.int .i64 z):=aA (i:=0) hA2;have k1:W.cell? ⟨kb,1,none⟩=some (.string fl):=aA (i:=1) hA2;have k2:W.cell? ⟨kb,2,none⟩=some (.string nm):=aA (i:=2) hA2;have s3:W.cell? ⟨bs,3,none⟩=some (.map (some ms)):=aA (i:=3) hS;have HS:=hid hS;have HA:=hid hA2;have HR:=hid hR;have HKB:=hid hkb;have hbk:bs<kb:=by have:=aB h3;omega
 clear hA2 hR hS h3 hkb;have hS:Below W.heap.size W W/\W.cell? ⟨kb,0,none⟩=some (.int .i64 z)/\W.cell? ⟨kb,1,none⟩=some (.string fl)/\W.cell? ⟨kb,2,none⟩=some (.string nm)/\W.cell? ⟨bs,3,none⟩=some (.map (some ms)):=⟨Below.refl _ _,k0,k1,k2,s3⟩
 clear k0 k1 k2 s3;have m10:=HLK.out W HM1.out;have m11:=HLK.out W.drew HM1.out;have m12:=HLK.out W.drew.drew HM1.out;have m13:=HLK.out W.drew.drew.drew HM1.out;go_region_held3 (fun wx=>Below W.heap.size W wx/\wx.cell? ⟨kb,0,none⟩=some (.int .i64 z)/\wx.cell? ⟨kb,1,none⟩=some (.string fl)/\wx.cell? ⟨kb,2,none⟩=some (.string nm)/\wx.cell? ⟨bs,3,none⟩=some (.map (some ms)))
  (first
    | exact bL (by assumption) (aJ _)
    | exact bL (by assumption) (Below.refl _ _)
    | exact bL hS (aJ _))
  (first|fail)
 have hHeld:=(by assumption:Below W.heap.size W _/\_)
 generalize W.drew=W1 at hHeld ⊢;obtain⟨hb1,k0,k1,k2,s3⟩:=hHeld;have HS1:=hid (Ses.below_heap hb1 HS.out);have HA1:=hid (Ses.below_heap hb1 HA.out);have HR1:=hid (Ses.below_heap hb1 HR.out);have HB1:=hid hb1;have HM2:=hid (Ses.below_heap hb1 HM1.out);have g1:W1.frozen? ⟨kb,1,none⟩=false:=aE HA1.out;have g2:W1.frozen? ⟨kb,2,none⟩=false:=aE HA1.out;have hT:pF W1 W1 kb bs fl nm (.int .i64 z) (.map (some ms)):=⟨Below.refl _ _,k0,k1,k2,s3,g1,g2⟩
 clear hb1 hS m10 m11 m12 m13 m2 k0 k1 k2 s3 g1 g2;go_wp2;go_region_held3 (fun wx=>Below W1.heap.size W1 wx/\wx.cell? ⟨kb,0,none⟩=some (.int .i64 z)/\wx.cell? ⟨kb,1,none⟩=some (.string fl)/\wx.cell? ⟨kb,2,none⟩=some (.string nm)/\wx.cell? ⟨bs,3,none⟩=some (.map (some ms))/\wx.frozen? ⟨kb,1,none⟩=false/\wx.frozen? ⟨kb,2,none⟩=false)
  (first
    | exact bW (by assumption) (aJ _)
    | exact bW (by assumption) (by assumption)
    | exact iI (by assumption)
    | exact iJ (by assumption)
    | exact bW (by assumption) (Below.refl _ _)
    | exact bW hT (aJ _))
  (first
    | (go_at_call_of 23 fl;refine (dJ _ _ hfl.out).mono ?_;rintro e w8⟨rfl,hb8⟩)
    | (go_at_call_of 23 nm;refine (dJ _ _ hnm.out).mono ?_;rintro e w8⟨rfl,hb8⟩))
 have hHeld:=(by assumption:Below W1.heap.size W1 _/\_)
 generalize (w8.setCell ⟨kb,1,none⟩ (.string fl)).setCell ⟨kb,2,none⟩ (.string nm)=W2 at hHeld ⊢;obtain⟨hb2,k0,k1,k2,s3,g1,g2⟩:=hHeld;have HS2:=hid (Ses.below_heap hb2 HS1.out);have HA2:=hid (Ses.below_heap hb2 HA1.out);have hr2:=Ses.below_heap hb2 HR1.out;have HB2:=hid hb2;have HM3:=hid (Ses.below_heap hb2 HM2.out);have r0:W2.cell? ⟨kb+1,0,none⟩=some _:=aA (i:=0) hr2;have r1:W2.cell? ⟨kb+1,1,none⟩=some _:=aA (i:=1) hr2;have r2:W2.cell? ⟨kb+1,2,none⟩=some _:=aA (i:=2) hr2;have hs2:=HS2.out;have ha2:=HA2.out;have e3:∀o,(W2.alloc o).cell? ⟨bs,3,none⟩=some (.map (some ms)):=fun o=>aA (i:=3) (aC o hs2);have f3:∀o,(W2.alloc o).frozen? ⟨bs,3,none⟩=false:=fun o=>aE (aC o hs2);have e0:∀o,(W2.alloc o).cell? ⟨kb,0,none⟩=some (.int .i64 z):=fun o=>aA (i:=0) (aC o ha2);have e1:∀o,(W2.alloc o).cell? ⟨kb,1,none⟩=some (.string fl):=fun o=>aA (i:=1) (aC o ha2);have e2:∀o,(W2.alloc o).cell? ⟨kb,2,none⟩=some (.string nm):=fun o=>aA (i:=2) (aC o ha2);have e33:∀o o',((W2.alloc o).alloc o').cell? ⟨bs,3,none⟩=some (.map (some ms)):=fun o o'=>aA (i:=3) (aC o' (aC o hs2));have f33:∀o o',((W2.alloc o).alloc o').frozen? ⟨bs,3,none⟩=false:=fun o o'=>aE (aC o' (aC o hs2));have hmn:∀W:World,(binOp .eql 58 (.map (some ms)) (.map none)).run Tryz.prog W = .ok (.bool false) W:=fun W=>run_eql_map_nil W 58 99 94 (some ms) Tryz.underlying58;clear hb2 hT hr2 g1 g2;go_wp2;have hsL:=aB hs2;have haL:=aB ha2;have hN:=aI W2 (.cells #[.pointer (some ⟨bs,1,none⟩),.int .i64 z,.string fl,.string nm,.bool false,.bool false,.slice none 0 0,.int .i64 (-1),.int .i64 0,.bool false,.int .i64 (-1),.int .u64 0,.func (.func F) #[.pointer (some ⟨bs,0,none⟩)] #[],.func (.func G) #[] #[],.slice none 0 0,.slice none 0 0] 192);have hP:=hid (sS (f:=f) (rv:=rv) (q:=q) (bg:=bg) (kv:=kv) (us:=us) hs2 ha2 HM3.out hN);generalize hW3:W2.alloc (.cells #[.pointer (some ⟨bs,1,none⟩),.int .i64 z,.string fl,.string nm,.bool false,.bool false,.slice none 0 0,.int .i64 (-1),.int .i64 0,.bool false,.int .i64 (-1),.int .u64 0,.func (.func F) #[.pointer (some ⟨bs,0,none⟩)] #[],.func (.func G) #[] #[],.slice none 0 0,.slice none 0 0] 192)=W3 at hP ⊢;clear hN hW3 e3 f3 e0 e1 e2 e33 f33 hmn k0 k1 k2 s3 r0 r1 r2 hs2 ha2;have q3:W3.cell? ⟨bs,3,none⟩=some (.map (some ms)):=aA (i:=3) hP.out.s;have k0:W3.cell? ⟨kb,0,none⟩=some (.int .i64 z):=aA (i:=0) hP.out.k;have k1:W3.cell? ⟨kb,1,none⟩=some (.string fl):=aA (i:=1) hP.out.k;have k2:W3.cell? ⟨kb,2,none⟩=some (.string nm):=aA (i:=2) hP.out.k;have hm3:=hP.out.m;have hst:=fun W=>HPT.out (.iface 189 (.pointer (some ⟨W2.heap.size,0,none⟩))) W;have hst0:=hst W3 hm3;have hst1:=hst W3.drew hm3;have hst2:=hst W3.drew.drew hm3;clear hst;go_region_with fail
 all_goals
  go_wp2;go_ret;refine⟨_,rfl,hP.out.fn ?_ (Nat.le_refl _) _⟩;have hw:Below w.heap.size w W:=HBL.out;exact (Ses.Fr.of_below hw).trans ((Ses.Fr.of_below HB1.out).trans (Ses.Fr.of_below HB2.out))
theorem Gs{f q bg kv:Value}{rv us:Int}(bs F G p:Nat)(sm:Value)(z:Int)(fl nm:ByteArray)(w:World)(hlk:∀w',Below w.heap.size w w'->(Instr.lookup 58 sm (.agg #[.int .i64 z,.string fl,.string nm]) false).run Tryz.prog w' = .ok (.iface 189 (.pointer (some ⟨p,0,none⟩))) w')(h3:w.heap[bs]? = some (.cells #[f,.int .i64 rv,q,sm,bg,kv,.int .u64 us] 66)) :
 Calls Tryz.prog 99 #[.pointer (some ⟨bs,1,none⟩),.agg #[.int .i64 z,.string fl,.string nm],.agg #[.func (.func F) #[.pointer (some ⟨bs,0,none⟩)] #[],.func (.func G) #[] #[],.slice none 0 0]] w fun e w'=>e = .returned (.pointer (some ⟨p,0,none⟩))/\Below w.heap.size w w':=by
 have HLK:=hid hlk;clear hlk;have m2:=fun (w:World) (xT:TypeId)=>(by kernel_rfl:(Instr.typeAssert (.iface 189 (.pointer (some ⟨p,0,none⟩))) xT 189 true).run Tryz.prog w = .ok (.tuple #[.pointer (some ⟨p,0,none⟩),.bool true]) w)
 have hA:=aI w (.cells #[.int .i64 z,.string fl,.string nm] 99);have hA2:=aC (.cells #[.func (.func F) #[.pointer (some ⟨bs,0,none⟩)] #[],.func (.func G) #[] #[],.slice none 0 0] 147) hA;have hR:=aI (w.alloc (.cells #[.int .i64 z,.string fl,.string nm] 99)) (.cells #[.func (.func F) #[.pointer (some ⟨bs,0,none⟩)] #[],.func (.func G) #[] #[],.slice none 0 0] 147);rw[show (w.alloc (.cells #[.int .i64 z,.string fl,.string nm] 99)).heap.size=w.heap.size+1 from by simp] at hR;have hS:=aC (.cells #[.func (.func F) #[.pointer (some ⟨bs,0,none⟩)] #[],.func (.func G) #[] #[],.slice none 0 0] 147) (aC (.cells #[.int .i64 z,.string fl,.string nm] 99) h3);have HBL:=hid (((Below.refl w.heap.size w).alloc (Nat.le_refl _) (.cells #[.int .i64 z,.string fl,.string nm] 99)).alloc (by simp) (.cells #[.func (.func F) #[.pointer (some ⟨bs,0,none⟩)] #[],.func (.func G) #[] #[],.slice none 0 0] 147));clear hA;go_enter Tryz.func99,Tryz.ntmps99;go_wp2_with fail
 generalize (w.alloc (.cells #[.int .i64 z,.string fl,.string nm] 99)).alloc (.cells #[.func (.func F) #[.pointer (some ⟨bs,0,none⟩)] #[],.func (.func G) #[] #[],.slice none 0 0] 147)=W at hA2 hR hS HBL ⊢;generalize hkb:w.heap.size=kb at hA2 hR ⊢;have k0:W.cell? ⟨kb,0,none⟩=some (.int .i64 z):=aA (i:=0) hA2;have k1:W.cell? ⟨kb,1,none⟩=some (.string fl):=aA (i:=1) hA2;have k2:W.cell? ⟨kb,2,none⟩=some (.string nm):=aA (i:=2) hA2;have s3:W.cell? ⟨bs,3,none⟩=some sm:=aA (i:=3) hS;have HS:=hid hS;have HA:=hid hA2;have HR:=hid hR;have HKB:=hid hkb;have hbk:bs<kb:=by have:=aB h3;omega
 clear hA2 hR hS h3 hkb;have hS:Below W.heap.size W W/\W.cell? ⟨kb,0,none⟩=some (.int .i64 z)/\W.cell? ⟨kb,1,none⟩=some (.string fl)/\W.cell? ⟨kb,2,none⟩=some (.string nm)/\W.cell? ⟨bs,3,none⟩=some sm:=⟨Below.refl _ _,k0,k1,k2,s3⟩
 clear k0 k1 k2 s3;have hbw:Below w.heap.size w W:=HBL.out;have m10:=HLK.out W hbw;have m11:=HLK.out W.drew (aF hbw (below_drewN _ 1));have m12:=HLK.out W.drew.drew (aF hbw (below_drewN _ 2));have m13:=HLK.out W.drew.drew.drew (aF hbw (below_drewN _ 3));clear hbw;go_region_held3 (fun wx=>Below W.heap.size W wx/\wx.cell? ⟨kb,0,none⟩=some (.int .i64 z)/\wx.cell? ⟨kb,1,none⟩=some (.string fl)/\wx.cell? ⟨kb,2,none⟩=some (.string nm)/\wx.cell? ⟨bs,3,none⟩=some sm)
  (first
    | exact bL (by assumption) (aJ _)
    | exact bL (by assumption) (Below.refl _ _)
    | exact bL hS (aJ _))
  (first|fail)
 have hHeld:=(by assumption:Below W.heap.size W _/\_)
 have hb1:=hHeld.1;clear hHeld hS m10 m11 m12 m13 m2;go_wp2;go_ret;have h9:=HKB.out;subst h9;exact⟨rfl,aF HBL.out hb1⟩

theorem Gt{f q bg kv:Value}{rv us:Int}(bs F G:Nat)(z:Int)(fl nm:ByteArray)(w:World)(hfl:Hid (fl.size<=cD))(hnm:Hid (nm.size<=cD))(hlk:∀w,(Instr.lookup 58 (.map none) (.agg #[.int .i64 z,.string fl,.string nm]) false).run Tryz.prog w = .ok .nilIface w)(hpt:∀(ms:Nat) (v:Value) (w:World),w.heap[ms]? = some (.map #[] 0)->(Instr.mapUpdate 58 (.map (some ms)) (.agg #[.int .i64 z,.string fl,.string nm]) v).run Tryz.prog w = .ok () (Ses.setO w ms (.map (#[].push {key:=.agg #[.int .i64 z,.string fl,.string nm],val:=v,born:=0}) (0+1))))(h3:w.heap[bs]? = some (.cells #[f,.int .i64 rv,q,.map none,bg,kv,.int .u64 us] 66)) :
 Calls Tryz.prog 96 #[.pointer (some ⟨bs,1,none⟩),.agg #[.int .i64 z,.string fl,.string nm],.agg #[.func (.func F) #[.pointer (some ⟨bs,0,none⟩)] #[],.func (.func G) #[] #[],.slice none 0 0,.int .i64 0]] w fun e w'=>∃p ms,e = .returned (.pointer (some ⟨p,0,none⟩))/\w.heap.size<=ms/\FN w w' bs p ms 0 #[] 187 184 f rv q bg kv us [.pointer (some ⟨bs,1,none⟩),.int .i64 z,.string fl,.string nm,.bool false,.bool false,.slice none 0 0,.int .i64 (-1),.int .i64 0,.bool false,.int .i64 (-1),.int .u64 0,.func (.func F) #[.pointer (some ⟨bs,0,none⟩)] #[],.func (.func G) #[] #[],.slice none 0 0,.int .i64 0,.slice none 0 0,.int .i64 0] (.agg #[.int .i64 z,.string fl,.string nm]):=by
 have m1:=hlk;have m2:=fun (w:World) (xT:TypeId)=>(by kernel_rfl:(Instr.typeAssert .nilIface xT 184 true).run Tryz.prog w = .ok (.tuple #[.pointer none,.bool false]) w)
 have hA:=aI w (.cells #[.int .i64 z,.string fl,.string nm] 99);have hA2:=aC (.cells #[.func (.func F) #[.pointer (some ⟨bs,0,none⟩)] #[],.func (.func G) #[] #[],.slice none 0 0,.int .i64 0] 142) hA;have hR:=aI (w.alloc (.cells #[.int .i64 z,.string fl,.string nm] 99)) (.cells #[.func (.func F) #[.pointer (some ⟨bs,0,none⟩)] #[],.func (.func G) #[] #[],.slice none 0 0,.int .i64 0] 142);rw[show (w.alloc (.cells #[.int .i64 z,.string fl,.string nm] 99)).heap.size=w.heap.size+1 from by simp] at hR;have hS:=aC (.cells #[.func (.func F) #[.pointer (some ⟨bs,0,none⟩)] #[],.func (.func G) #[] #[],.slice none 0 0,.int .i64 0] 142) (aC (.cells #[.int .i64 z,.string fl,.string nm] 99) h3);have HBL:=hid (((Below.refl w.heap.size w).alloc (Nat.le_refl _) (.cells #[.int .i64 z,.string fl,.string nm] 99)).alloc (by simp) (.cells #[.func (.func F) #[.pointer (some ⟨bs,0,none⟩)] #[],.func (.func G) #[] #[],.slice none 0 0,.int .i64 0] 142));clear hA;go_enter Tryz.func96,Tryz.ntmps96;go_wp2_with fail
 generalize (w.alloc (.cells #[.int .i64 z,.string fl,.string nm] 99)).alloc (.cells #[.func (.func F) #[.pointer (some ⟨bs,0,none⟩)] #[],.func (.func G) #[] #[],.slice none 0 0,.int .i64 0] 142)=W at hA2 hR hS HBL ⊢;generalize hkb:w.heap.size=kb at hA2 hR ⊢;have k0:W.cell? ⟨kb,0,none⟩=some (.int .i64 z):=aA (i:=0) hA2;have k1:W.cell? ⟨kb,1,none⟩=some (.string fl):=aA (i:=1) hA2;have k2:W.cell? ⟨kb,2,none⟩=some (.string nm):=aA (i:=2) hA2;have s3:W.cell? ⟨bs,3,none⟩=some (.map none):=aA (i:=3) hS;have HS:=hid hS;have HA:=hid hA2;have HR:=hid hR;have HKB:=hid hkb;have hbk:bs<kb:=by have:=aB h3;omega
 clear hA2 hR hS h3 hkb;have hS:Below W.heap.size W W/\W.cell? ⟨kb,0,none⟩=some (.int .i64 z)/\W.cell? ⟨kb,1,none⟩=some (.string fl)/\W.cell? ⟨kb,2,none⟩=some (.string nm)/\W.cell? ⟨bs,3,none⟩=some (.map none):=⟨Below.refl _ _,k0,k1,k2,s3⟩
 clear k0 k1 k2 s3;go_region_held3 (fun wx=>Below W.heap.size W wx/\wx.cell? ⟨kb,0,none⟩=some (.int .i64 z)/\wx.cell? ⟨kb,1,none⟩=some (.string fl)/\wx.cell? ⟨kb,2,none⟩=some (.string nm)/\wx.cell? ⟨bs,3,none⟩=some (.map none))
  (first
    | exact bL (by assumption) (aJ _)
    | exact bL (by assumption) (Below.refl _ _)
    | exact bL hS (aJ _))
  (first|fail)
 have hHeld:=(by assumption:Below W.heap.size W _/\_)
 generalize W.drew=W1 at hHeld ⊢;obtain⟨hb1,k0,k1,k2,s3⟩:=hHeld;have HS1:=hid (Ses.below_heap hb1 HS.out);have HA1:=hid (Ses.below_heap hb1 HA.out);have HR1:=hid (Ses.below_heap hb1 HR.out);have HB1:=hid hb1;have g1:W1.frozen? ⟨kb,1,none⟩=false:=aE HA1.out;have g2:W1.frozen? ⟨kb,2,none⟩=false:=aE HA1.out;have hT:pF W1 W1 kb bs fl nm (.int .i64 z) (.map none):=⟨Below.refl _ _,k0,k1,k2,s3,g1,g2⟩
 clear hb1 hS m1 m2 k0 k1 k2 s3 g1 g2;go_wp2;go_region_held3 (fun wx=>Below W1.heap.size W1 wx/\wx.cell? ⟨kb,0,none⟩=some (.int .i64 z)/\wx.cell? ⟨kb,1,none⟩=some (.string fl)/\wx.cell? ⟨kb,2,none⟩=some (.string nm)/\wx.cell? ⟨bs,3,none⟩=some (.map none)/\wx.frozen? ⟨kb,1,none⟩=false/\wx.frozen? ⟨kb,2,none⟩=false)
  (first
    | exact bW (by assumption) (aJ _)
    | exact bW (by assumption) (by assumption)
    | exact iI (by assumption)
    | exact iJ (by assumption)
    | exact bW (by assumption) (Below.refl _ _)
    | exact bW hT (aJ _))
  (first
    | (go_at_call_of 23 fl;refine (dJ _ _ hfl.out).mono ?_;rintro e w8⟨rfl,hb8⟩)
    | (go_at_call_of 23 nm;refine (dJ _ _ hnm.out).mono ?_;rintro e w8⟨rfl,hb8⟩))
 have hHeld:=(by assumption:Below W1.heap.size W1 _/\_)
 generalize (w8.setCell ⟨kb,1,none⟩ (.string fl)).setCell ⟨kb,2,none⟩ (.string nm)=W2 at hHeld ⊢;obtain⟨hb2,k0,k1,k2,s3,g1,g2⟩:=hHeld;have HS2:=hid (Ses.below_heap hb2 HS1.out);have HA2:=hid (Ses.below_heap hb2 HA1.out);have hr2:=Ses.below_heap hb2 HR1.out;have HB2:=hid hb2;have r0:W2.cell? ⟨kb+1,0,none⟩=some _:=aA (i:=0) hr2;have r1:W2.cell? ⟨kb+1,1,none⟩=some _:=aA (i:=1) hr2;have r2:W2.cell? ⟨kb+1,2,none⟩=some _:=aA (i:=2) hr2;have r3:W2.cell? ⟨kb+1,3,none⟩=some _:=aA (i:=3) hr2;have hs2:=HS2.out;have ha2:=HA2.out;have e3:∀o,(W2.alloc o).cell? ⟨bs,3,none⟩=some (.map none):=fun o=>aA (i:=3) (aC o hs2);have f3:∀o,(W2.alloc o).frozen? ⟨bs,3,none⟩=false:=fun o=>aE (aC o hs2);have e0:∀o,(W2.alloc o).cell? ⟨kb,0,none⟩=some (.int .i64 z):=fun o=>aA (i:=0) (aC o ha2);have e1:∀o,(W2.alloc o).cell? ⟨kb,1,none⟩=some (.string fl):=fun o=>aA (i:=1) (aC o ha2);have e2:∀o,(W2.alloc o).cell? ⟨kb,2,none⟩=some (.string nm):=fun o=>aA (i:=2) (aC o ha2);have e33:∀o o',((W2.alloc o).alloc o').cell? ⟨bs,3,none⟩=some (.map none):=fun o o'=>aA (i:=3) (aC o' (aC o hs2));have f33:∀o o',((W2.alloc o).alloc o').frozen? ⟨bs,3,none⟩=false:=fun o o'=>aE (aC o' (aC o hs2));have hmn:∀W:World,(binOp .eql 58 (.map none) (.map none)).run Tryz.prog W = .ok (.bool true) W:=fun W=>run_eql_map_nil W 58 99 94 none Tryz.underlying58;have hmk:∀W:World,(Instr.makeMap 58 none).run Tryz.prog W = .ok (.map (some W.heap.size)) (W.alloc (.map #[] 0)):=fun W=>@run_makeMap Tryz.prog 58 W;clear hb2 hT hr2 g1 g2;go_wp2;have hsL:=aB hs2;have haL:=aB ha2;have hN:=aI W2 (.cells #[.pointer (some ⟨bs,1,none⟩),.int .i64 z,.string fl,.string nm,.bool false,.bool false,.slice none 0 0,.int .i64 (-1),.int .i64 0,.bool false,.int .i64 (-1),.int .u64 0,.func (.func F) #[.pointer (some ⟨bs,0,none⟩)] #[],.func (.func G) #[] #[],.slice none 0 0,.int .i64 0,.slice none 0 0,.int .i64 0] 187);have hP:=hid (qC (f:=f) (rv:=rv) (q:=q) (bg:=bg) (kv:=kv) (us:=us) hs2 ha2 hN (by omega) rfl);generalize ((W2.alloc (.cells #[.pointer (some ⟨bs,1,none⟩),.int .i64 z,.string fl,.string nm,.bool false,.bool false,.slice none 0 0,.int .i64 (-1),.int .i64 0,.bool false,.int .i64 (-1),.int .u64 0,.func (.func F) #[.pointer (some ⟨bs,0,none⟩)] #[],.func (.func G) #[] #[],.slice none 0 0,.int .i64 0,.slice none 0 0,.int .i64 0] 187)).alloc (.map #[] 0)).setCell ⟨bs,3,none⟩ (.map (some (W2.heap.size+1)))=W3 at hP ⊢;clear hN e3 f3 e0 e1 e2 e33 f33 hmn hmk k0 k1 k2 s3 r0 r1 r2 hs2 ha2;have q3:W3.cell? ⟨bs,3,none⟩=some (.map (some (W2.heap.size+1))):=aA (i:=3) hP.out.s;have k0:W3.cell? ⟨kb,0,none⟩=some (.int .i64 z):=aA (i:=0) hP.out.k;have k1:W3.cell? ⟨kb,1,none⟩=some (.string fl):=aA (i:=1) hP.out.k;have k2:W3.cell? ⟨kb,2,none⟩=some (.string nm):=aA (i:=2) hP.out.k;have hm3:=hP.out.m;have hst:=fun W=>hpt (W2.heap.size+1) (.iface 184 (.pointer (some ⟨W2.heap.size,0,none⟩))) W;clear hpt;have hst0:=hst W3 hm3;have hst1:=hst W3.drew hm3;have hst2:=hst W3.drew.drew hm3;clear hst;go_region_with fail
 all_goals
  go_wp2;go_ret;refine⟨_,_,rfl,(by have:=HBL.out.size;have:=HB1.out.size;have:=HB2.out.size;omega),hP.out.fn ?_ (Nat.le_refl _) _⟩;have hw:Below w.heap.size w W:=HBL.out;exact (Ses.Fr.of_below hw).trans ((Ses.Fr.of_below HB1.out).trans (Ses.Fr.of_below HB2.out))
theorem Gu{f q bg kv:Value}{rv us:Int}(bs F G ms n:Nat)(es:Array MapEntry)(z:Int)(fl nm:ByteArray)(w:World)(hfl:Hid (fl.size<=cD))(hnm:Hid (nm.size<=cD))(hlk:∀w,w.heap[ms]? = some (.map es n)->(Instr.lookup 58 (.map (some ms)) (.agg #[.int .i64 z,.string fl,.string nm]) false).run Tryz.prog w = .ok .nilIface w)(hpt:∀(v:Value) (w:World),w.heap[ms]? = some (.map es n)->(Instr.mapUpdate 58 (.map (some ms)) (.agg #[.int .i64 z,.string fl,.string nm]) v).run Tryz.prog w = .ok () (Ses.setO w ms (.map (es.push {key:=.agg #[.int .i64 z,.string fl,.string nm],val:=v,born:=n}) (n+1))))(hM:w.heap[ms]? = some (.map es n))(h3:w.heap[bs]? = some (.cells #[f,.int .i64 rv,q,.map (some ms),bg,kv,.int .u64 us] 66)) :
 Calls Tryz.prog 96 #[.pointer (some ⟨bs,1,none⟩),.agg #[.int .i64 z,.string fl,.string nm],.agg #[.func (.func F) #[.pointer (some ⟨bs,0,none⟩)] #[],.func (.func G) #[] #[],.slice none 0 0,.int .i64 0]] w fun e w'=>∃p,e = .returned (.pointer (some ⟨p,0,none⟩))/\FN w w' bs p ms n es 187 184 f rv q bg kv us [.pointer (some ⟨bs,1,none⟩),.int .i64 z,.string fl,.string nm,.bool false,.bool false,.slice none 0 0,.int .i64 (-1),.int .i64 0,.bool false,.int .i64 (-1),.int .u64 0,.func (.func F) #[.pointer (some ⟨bs,0,none⟩)] #[],.func (.func G) #[] #[],.slice none 0 0,.int .i64 0,.slice none 0 0,.int .i64 0] (.agg #[.int .i64 z,.string fl,.string nm]):=by
 have HLK:=hid hlk;have HPT:=hid hpt;clear hlk hpt;have m2:=fun (w:World) (xT:TypeId)=>(by kernel_rfl:(Instr.typeAssert .nilIface xT 184 true).run Tryz.prog w = .ok (.tuple #[.pointer none,.bool false]) w)
 have hA:=aI w (.cells #[.int .i64 z,.string fl,.string nm] 99);have hA2:=aC (.cells #[.func (.func F) #[.pointer (some ⟨bs,0,none⟩)] #[],.func (.func G) #[] #[],.slice none 0 0,.int .i64 0] 142) hA;have hR:=aI (w.alloc (.cells #[.int .i64 z,.string fl,.string nm] 99)) (.cells #[.func (.func F) #[.pointer (some ⟨bs,0,none⟩)] #[],.func (.func G) #[] #[],.slice none 0 0,.int .i64 0] 142);rw[show (w.alloc (.cells #[.int .i64 z,.string fl,.string nm] 99)).heap.size=w.heap.size+1 from by simp] at hR;have hS:=aC (.cells #[.func (.func F) #[.pointer (some ⟨bs,0,none⟩)] #[],.func (.func G) #[] #[],.slice none 0 0,.int .i64 0] 142) (aC (.cells #[.int .i64 z,.string fl,.string nm] 99) h3);have HBL:=hid (((Below.refl w.heap.size w).alloc (Nat.le_refl _) (.cells #[.int .i64 z,.string fl,.string nm] 99)).alloc (by simp) (.cells #[.func (.func F) #[.pointer (some ⟨bs,0,none⟩)] #[],.func (.func G) #[] #[],.slice none 0 0,.int .i64 0] 142));have HM1:=hid (aC (.cells #[.func (.func F) #[.pointer (some ⟨bs,0,none⟩)] #[],.func (.func G) #[] #[],.slice none 0 0,.int .i64 0] 142) (aC (.cells #[.int .i64 z,.string fl,.string nm] 99) hM));clear hM;clear hA;go_enter Tryz.func96,Tryz.ntmps96;go_wp2_with fail
 generalize (w.alloc (.cells #[.int .i64 z,.string fl,.string nm] 99)).alloc (.cells #[.func (.func F) #[.pointer (some ⟨bs,0,none⟩)] #[],.func (.func G) #[] #[],.slice none 0 0,.int .i64 0] 142)=W at hA2 hR hS HBL HM1 ⊢;generalize hkb:w.heap.size=kb at hA2 hR ⊢;have k0:W.cell? ⟨kb,0,none⟩=some (.int .i64 z):=aA (i:=0) hA2;have k1:W.cell? ⟨kb,1,none⟩=some (.string fl):=aA (i:=1) hA2;have k2:W.cell? ⟨kb,2,none⟩=some (.string nm):=aA (i:=2) hA2;have s3:W.cell? ⟨bs,3,none⟩=some (.map (some ms)):=aA (i:=3) hS;have HS:=hid hS;have HA:=hid hA2;have HR:=hid hR;have HKB:=hid hkb;have hbk:bs<kb:=by have:=aB h3;omega
 clear hA2 hR hS h3 hkb;have hS:Below W.heap.size W W/\W.cell? ⟨kb,0,none⟩=some (.int .i64 z)/\W.cell? ⟨kb,1,none⟩=some (.string fl)/\W.cell? ⟨kb,2,none⟩=some (.string nm)/\W.cell? ⟨bs,3,none⟩=some (.map (some ms)):=⟨Below.refl _ _,k0,k1,k2,s3⟩
 clear k0 k1 k2 s3;have m10:=HLK.out W HM1.out;have m11:=HLK.out W.drew HM1.out;have m12:=HLK.out W.drew.drew HM1.out;have m13:=HLK.out W.drew.drew.drew HM1.out;go_region_held3 (fun wx=>Below W.heap.size W wx/\wx.cell? ⟨kb,0,none⟩=some (.int .i64 z)/\wx.cell? ⟨kb,1,none⟩=some (.string fl)/\wx.cell? ⟨kb,2,none⟩=some (.string nm)/\wx.cell? ⟨bs,3,none⟩=some (.map (some ms)))
  (first
    | exact bL (by assumption) (aJ _)
    | exact bL (by assumption) (Below.refl _ _)
    | exact bL hS (aJ _))
  (first|fail)
 have hHeld:=(by assumption:Below W.heap.size W _/\_)
 generalize W.drew=W1 at hHeld ⊢;obtain⟨hb1,k0,k1,k2,s3⟩:=hHeld;have HS1:=hid (Ses.below_heap hb1 HS.out);have HA1:=hid (Ses.below_heap hb1 HA.out);have HR1:=hid (Ses.below_heap hb1 HR.out);have HB1:=hid hb1;have HM2:=hid (Ses.below_heap hb1 HM1.out);have g1:W1.frozen? ⟨kb,1,none⟩=false:=aE HA1.out;have g2:W1.frozen? ⟨kb,2,none⟩=false:=aE HA1.out;have hT:pF W1 W1 kb bs fl nm (.int .i64 z) (.map (some ms)):=⟨Below.refl _ _,k0,k1,k2,s3,g1,g2⟩
 clear hb1 hS m10 m11 m12 m13 m2 k0 k1 k2 s3 g1 g2;go_wp2;go_region_held3 (fun wx=>Below W1.heap.size W1 wx/\wx.cell? ⟨kb,0,none⟩=some (.int .i64 z)/\wx.cell? ⟨kb,1,none⟩=some (.string fl)/\wx.cell? ⟨kb,2,none⟩=some (.string nm)/\wx.cell? ⟨bs,3,none⟩=some (.map (some ms))/\wx.frozen? ⟨kb,1,none⟩=false/\wx.frozen? ⟨kb,2,none⟩=false)
  (first
    | exact bW (by assumption) (aJ _)
    | exact bW (by assumption) (by assumption)
    | exact iI (by assumption)
    | exact iJ (by assumption)
    | exact bW (by assumption) (Below.refl _ _)
    | exact bW hT (aJ _))
  (first
    | (go_at_call_of 23 fl;refine (dJ _ _ hfl.out).mono ?_;rintro e w8⟨rfl,hb8⟩)
    | (go_at_call_of 23 nm;refine (dJ _ _ hnm.out).mono ?_;rintro e w8⟨rfl,hb8⟩))
 have hHeld:=(by assumption:Below W1.heap.size W1 _/\_)
 generalize (w8.setCell ⟨kb,1,none⟩ (.string fl)).setCell ⟨kb,2,none⟩ (.string nm)=W2 at hHeld ⊢;obtain⟨hb2,k0,k1,k2,s3,g1,g2⟩:=hHeld;have HS2:=hid (Ses.below_heap hb2 HS1.out);have HA2:=hid (Ses.below_heap hb2 HA1.out);have hr2:=Ses.below_heap hb2 HR1.out;have HB2:=hid hb2;have HM3:=hid (Ses.below_heap hb2 HM2.out);have r0:W2.cell? ⟨kb+1,0,none⟩=some _:=aA (i:=0) hr2;have r1:W2.cell? ⟨kb+1,1,none⟩=some _:=aA (i:=1) hr2;have r2:W2.cell? ⟨kb+1,2,none⟩=some _:=aA (i:=2) hr2;have r3:W2.cell? ⟨kb+1,3,none⟩=some _:=aA (i:=3) hr2;have hs2:=HS2.out;have ha2:=HA2.out;have e3:∀o,(W2.alloc o).cell? ⟨bs,3,none⟩=some (.map (some ms)):=fun o=>aA (i:=3) (aC o hs2);have f3:∀o,(W2.alloc o).frozen? ⟨bs,3,none⟩=false:=fun o=>aE (aC o hs2);have e0:∀o,(W2.alloc o).cell? ⟨kb,0,none⟩=some (.int .i64 z):=fun o=>aA (i:=0) (aC o ha2);have e1:∀o,(W2.alloc o).cell? ⟨kb,1,none⟩=some (.string fl):=fun o=>aA (i:=1) (aC o ha2);have e2:∀o,(W2.alloc o).cell? ⟨kb,2,none⟩=some (.string nm):=fun o=>aA (i:=2) (aC o ha2);have e33:∀o o',((W2.alloc o).alloc o').cell? ⟨bs,3,none⟩=some (.map (some ms)):=fun o o'=>aA (i:=3) (aC o' (aC o hs2));have f33:∀o o',((W2.alloc o).alloc o').frozen? ⟨bs,3,none⟩=false:=fun o o'=>aE (aC o' (aC o hs2));have hmn:∀W:World,(binOp .eql 58 (.map (some ms)) (.map none)).run Tryz.prog W = .ok (.bool false) W:=fun W=>run_eql_map_nil W 58 99 94 (some ms) Tryz.underlying58;clear hb2 hT hr2 g1 g2;go_wp2;have hsL:=aB hs2;have haL:=aB ha2;have hN:=aI W2 (.cells #[.pointer (some ⟨bs,1,none⟩),.int .i64 z,.string fl,.string nm,.bool false,.bool false,.slice none 0 0,.int .i64 (-1),.int .i64 0,.bool false,.int .i64 (-1),.int .u64 0,.func (.func F) #[.pointer (some ⟨bs,0,none⟩)] #[],.func (.func G) #[] #[],.slice none 0 0,.int .i64 0,.slice none 0 0,.int .i64 0] 187);have hP:=hid (sS (f:=f) (rv:=rv) (q:=q) (bg:=bg) (kv:=kv) (us:=us) hs2 ha2 HM3.out hN);generalize hW3:W2.alloc (.cells #[.pointer (some ⟨bs,1,none⟩),.int .i64 z,.string fl,.string nm,.bool false,.bool false,.slice none 0 0,.int .i64 (-1),.int .i64 0,.bool false,.int .i64 (-1),.int .u64 0,.func (.func F) #[.pointer (some ⟨bs,0,none⟩)] #[],.func (.func G) #[] #[],.slice none 0 0,.int .i64 0,.slice none 0 0,.int .i64 0] 187)=W3 at hP ⊢;clear hN hW3 e3 f3 e0 e1 e2 e33 f33 hmn k0 k1 k2 s3 r0 r1 r2 hs2 ha2;have q3:W3.cell? ⟨bs,3,none⟩=some (.map (some ms)):=aA (i:=3) hP.out.s;have k0:W3.cell? ⟨kb,0,none⟩=some (.int .i64 z):=aA (i:=0) hP.out.k;have k1:W3.cell? ⟨kb,1,none⟩=some (.string fl):=aA (i:=1) hP.out.k;have k2:W3.cell? ⟨kb,2,none⟩=some (.string nm):=aA (i:=2) hP.out.k;have hm3:=hP.out.m;have hst:=fun W=>HPT.out (.iface 184 (.pointer (some ⟨W2.heap.size,0,none⟩))) W;have hst0:=hst W3 hm3;have hst1:=hst W3.drew hm3;have hst2:=hst W3.drew.drew hm3;clear hst;go_region_with fail
 all_goals
  go_wp2;go_ret;refine⟨_,rfl,hP.out.fn ?_ (Nat.le_refl _) _⟩;have hw:Below w.heap.size w W:=HBL.out;exact (Ses.Fr.of_below hw).trans ((Ses.Fr.of_below HB1.out).trans (Ses.Fr.of_below HB2.out))
theorem Gv{f q bg kv:Value}{rv us:Int}(bs F G p:Nat)(sm:Value)(z:Int)(fl nm:ByteArray)(w:World)(hlk:∀w',Below w.heap.size w w'->(Instr.lookup 58 sm (.agg #[.int .i64 z,.string fl,.string nm]) false).run Tryz.prog w' = .ok (.iface 184 (.pointer (some ⟨p,0,none⟩))) w')(h3:w.heap[bs]? = some (.cells #[f,.int .i64 rv,q,sm,bg,kv,.int .u64 us] 66)) :
 Calls Tryz.prog 96 #[.pointer (some ⟨bs,1,none⟩),.agg #[.int .i64 z,.string fl,.string nm],.agg #[.func (.func F) #[.pointer (some ⟨bs,0,none⟩)] #[],.func (.func G) #[] #[],.slice none 0 0,.int .i64 0]] w fun e w'=>e = .returned (.pointer (some ⟨p,0,none⟩))/\Below w.heap.size w w':=by
 have HLK:=hid hlk;clear hlk;have m2:=fun (w:World) (xT:TypeId)=>(by kernel_rfl:(Instr.typeAssert (.iface 184 (.pointer (some ⟨p,0,none⟩))) xT 184 true).run Tryz.prog w = .ok (.tuple #[.pointer (some ⟨p,0,none⟩),.bool true]) w)
 have hA:=aI w (.cells #[.int .i64 z,.string fl,.string nm] 99);have hA2:=aC (.cells #[.func (.func F) #[.pointer (some ⟨bs,0,none⟩)] #[],.func (.func G) #[] #[],.slice none 0 0,.int .i64 0] 142) hA;have hR:=aI (w.alloc (.cells #[.int .i64 z,.string fl,.string nm] 99)) (.cells #[.func (.func F) #[.pointer (some ⟨bs,0,none⟩)] #[],.func (.func G) #[] #[],.slice none 0 0,.int .i64 0] 142);rw[show (w.alloc (.cells #[.int .i64 z,.string fl,.string nm] 99)).heap.size=w.heap.size+1 from by simp] at hR;have hS:=aC (.cells #[.func (.func F) #[.pointer (some ⟨bs,0,none⟩)] #[],.func (.func G) #[] #[],.slice none 0 0,.int .i64 0] 142) (aC (.cells #[.int .i64 z,.string fl,.string nm] 99) h3);have HBL:=hid (((Below.refl w.heap.size w).alloc (Nat.le_refl _) (.cells #[.int .i64 z,.string fl,.string nm] 99)).alloc (by simp) (.cells #[.func (.func F) #[.pointer (some ⟨bs,0,none⟩)] #[],.func (.func G) #[] #[],.slice none 0 0,.int .i64 0] 142));clear hA;go_enter Tryz.func96,Tryz.ntmps96;go_wp2_with fail
 generalize (w.alloc (.cells #[.int .i64 z,.string fl,.string nm] 99)).alloc (.cells #[.func (.func F) #[.pointer (some ⟨bs,0,none⟩)] #[],.func (.func G) #[] #[],.slice none 0 0,.int .i64 0] 142)=W at hA2 hR hS HBL ⊢;generalize hkb:w.heap.size=kb at hA2 hR ⊢;have k0:W.cell? ⟨kb,0,none⟩=some (.int .i64 z):=aA (i:=0) hA2;have k1:W.cell? ⟨kb,1,none⟩=some (.string fl):=aA (i:=1) hA2;have k2:W.cell? ⟨kb,2,none⟩=some (.string nm):=aA (i:=2) hA2;have s3:W.cell? ⟨bs,3,none⟩=some sm:=aA (i:=3) hS;have HS:=hid hS;have HA:=hid hA2;have HR:=hid hR;have HKB:=hid hkb;have hbk:bs<kb:=by have:=aB h3;omega
 clear hA2 hR hS h3 hkb;have hS:Below W.heap.size W W/\W.cell? ⟨kb,0,none⟩=some (.int .i64 z)/\W.cell? ⟨kb,1,none⟩=some (.string fl)/\W.cell? ⟨kb,2,none⟩=some (.string nm)/\W.cell? ⟨bs,3,none⟩=some sm:=⟨Below.refl _ _,k0,k1,k2,s3⟩
 clear k0 k1 k2 s3;have hbw:Below w.heap.size w W:=HBL.out;have m10:=HLK.out W hbw;have m11:=HLK.out W.drew (aF hbw (below_drewN _ 1));have m12:=HLK.out W.drew.drew (aF hbw (below_drewN _ 2));have m13:=HLK.out W.drew.drew.drew (aF hbw (below_drewN _ 3));clear hbw;go_region_held3 (fun wx=>Below W.heap.size W wx/\wx.cell? ⟨kb,0,none⟩=some (.int .i64 z)/\wx.cell? ⟨kb,1,none⟩=some (.string fl)/\wx.cell? ⟨kb,2,none⟩=some (.string nm)/\wx.cell? ⟨bs,3,none⟩=some sm)
  (first
    | exact bL (by assumption) (aJ _)
    | exact bL (by assumption) (Below.refl _ _)
    | exact bL hS (aJ _))
  (first|fail)
 have hHeld:=(by assumption:Below W.heap.size W _/\_)
 have hb1:=hHeld.1;clear hHeld hS m10 m11 m12 m13 m2;go_wp2;go_ret;have h9:=HKB.out;subst h9;exact⟨rfl,aF HBL.out hb1⟩
theorem MH{st:St V}{L:aM}{bs:Nat}{fm:Value}{w:World}(h:bN st L none bs fm w)(k:K)(h2:k.kind≠2)(h3:k.kind≠3)(h4:k.kind≠4)(hf:k.file.size<=cD)(hn:k.name.size<=cD) :
 Calls Tryz.prog 85 #[.pointer (some ⟨bs,1,none⟩),cM k,.agg ⟨cB bs k.kind⟩] w (mV st L bs fm k w):=by
 have hTB:TB k=175:=by simp[TB,h2,h3,h4]
 have hTI:TI k=165:=by simp[TI,h2,h3,h4]
 have hru:cB bs k.kind = [.func (.func (cF k.kind)) #[ptr bs] #[],.func (.func 89) #[] #[],.string (if k.kind=7 then dA else bA)]:=by simp[cB,h2,h3,h4]
 refine pG h k (zv:=[.string ⟨#[]⟩]) (by simp[bO,h2,h3,h4]) (fun q bg kv a b c=>?_) (fun q bg kv ms es n a b c d=>?_) (fun q sm bg kv p a b=>?_)
 . have:=Gj (F:=cF k.kind) (G:=89) (lo:=if k.kind=7 then dA else bA) bs k.kind k.file k.name w (hid hf) (hid hn) a b c
   rw[hTB,hTI,hru,aX,hru];exact this
 . have:=Gk (F:=cF k.kind) (G:=89) (lo:=if k.kind=7 then dA else bA) bs ms n es k.kind k.file k.name w (hid hf) (hid hn) a b c d
   rw[hTB,hTI,hru,aX,hru];exact this
 . rw[hTI] at a
   have:=Gl (F:=cF k.kind) (G:=89) (lo:=if k.kind=7 then dA else bA) bs p sm k.kind k.file k.name w a b
   rw[hru];exact this
theorem MI{st:St V}{L:aM}{bs:Nat}{fm:Value}{w:World}(h:bN st L none bs fm w)(k:K)(h2:k.kind=2)(hf:k.file.size<=cD)(hn:k.name.size<=cD) :
 Calls Tryz.prog 93 #[.pointer (some ⟨bs,1,none⟩),cM k,.agg ⟨cB bs k.kind⟩] w (mV st L bs fm k w):=by
 have hTB:TB k=181:=by simp[TB,h2]
 have hTI:TI k=178:=by simp[TI,h2]
 have hru:cB bs k.kind = [.func (.func (cF k.kind)) #[ptr bs] #[],.func (.func 64) #[] #[],.slice none 0 0]:=by simp[cB,h2]
 refine pG h k (zv:=[.slice none 0 0]) (by simp[bO,h2]) (fun q bg kv a b c=>?_) (fun q bg kv ms es n a b c d=>?_) (fun q sm bg kv p a b=>?_)
 . have:=Gm (F:=cF k.kind) (G:=64) bs k.kind k.file k.name w (hid hf) (hid hn) a b c
   rw[hTB,hTI,hru,aX,hru];exact this
 . have:=Gn (F:=cF k.kind) (G:=64) bs ms n es k.kind k.file k.name w (hid hf) (hid hn) a b c d
   rw[hTB,hTI,hru,aX,hru];exact this
 . rw[hTI] at a
   have:=Gp (F:=cF k.kind) (G:=64) bs p sm k.kind k.file k.name w a b
   rw[hru];exact this
theorem MJ{st:St V}{L:aM}{bs:Nat}{fm:Value}{w:World}(h:bN st L none bs fm w)(k:K)(h2:k.kind=4)(hf:k.file.size<=cD)(hn:k.name.size<=cD) :
 Calls Tryz.prog 99 #[.pointer (some ⟨bs,1,none⟩),cM k,.agg ⟨cB bs k.kind⟩] w (mV st L bs fm k w):=by
 have hTB:TB k=192:=by simp[TB,h2]
 have hTI:TI k=189:=by simp[TI,h2]
 have hru:cB bs k.kind = [.func (.func (cF k.kind)) #[ptr bs] #[],.func (.func 72) #[] #[],.slice none 0 0]:=by simp[cB,h2]
 refine pG h k (zv:=[.slice none 0 0]) (by simp[bO,h2]) (fun q bg kv a b c=>?_) (fun q bg kv ms es n a b c d=>?_) (fun q sm bg kv p a b=>?_)
 . have:=Gq (F:=cF k.kind) (G:=72) bs k.kind k.file k.name w (hid hf) (hid hn) a b c
   rw[hTB,hTI,hru,aX,hru];exact this
 . have:=Gr (F:=cF k.kind) (G:=72) bs ms n es k.kind k.file k.name w (hid hf) (hid hn) a b c d
   rw[hTB,hTI,hru,aX,hru];exact this
 . rw[hTI] at a
   have:=Gs (F:=cF k.kind) (G:=72) bs p sm k.kind k.file k.name w a b
   rw[hru];exact this
theorem MK{st:St V}{L:aM}{bs:Nat}{fm:Value}{w:World}(h:bN st L none bs fm w)(k:K)(h2:k.kind=3)(hf:k.file.size<=cD)(hn:k.name.size<=cD) :
 Calls Tryz.prog 96 #[.pointer (some ⟨bs,1,none⟩),cM k,.agg ⟨cB bs k.kind⟩] w (mV st L bs fm k w):=by
 have hTB:TB k=187:=by simp[TB,h2]
 have hTI:TI k=184:=by simp[TI,h2]
 have hru:cB bs k.kind = [.func (.func (cF k.kind)) #[ptr bs] #[],.func (.func 68) #[] #[],.slice none 0 0,.int .i64 0]:=by simp[cB,h2]
 refine pG h k (zv:=[.slice none 0 0,.int .i64 0]) (by simp[bO,h2]) (fun q bg kv a b c=>?_) (fun q bg kv ms es n a b c d=>?_) (fun q sm bg kv p a b=>?_)
 . have:=Gt (F:=cF k.kind) (G:=68) bs k.kind k.file k.name w (hid hf) (hid hn) a b c
   rw[hTB,hTI,hru,aX,hru];exact this
 . have:=Gu (F:=cF k.kind) (G:=68) bs ms n es k.kind k.file k.name w (hid hf) (hid hn) a b c d
   rw[hTB,hTI,hru,aX,hru];exact this
 . rw[hTI] at a
   have:=Gv (F:=cF k.kind) (G:=68) bs p sm k.kind k.file k.name w a b
   rw[hru];exact this
def oQ(k:K):List PanicEntry:=[{v:=.iface 307 (cM k),recovered:=false}]
theorem A3(p:Nat)(z:Int)(fl nm:ByteArray)(b:Bool)(w:World)(c1:w.cell? ⟨p,1,none⟩=some (.int .i64 z))(c2:w.cell? ⟨p,2,none⟩=some (.string fl))(c3:w.cell? ⟨p,3,none⟩=some (.string nm))(c4:w.cell? ⟨p,4,none⟩=some (.bool true))(c5:w.cell? ⟨p,5,none⟩=some (.bool b))(g5:w.frozen? ⟨p,5,none⟩=false) :
 Calls Tryz.prog 221 #[.pointer (some ⟨p,0,none⟩)] w fun e w'=>e = .panicked [{v:=.iface 307 (.agg #[.int .i64 z,.string fl,.string nm]),recovered:=false}]/\w'=w.setCell ⟨p,5,none⟩ (.bool true):=by
 go_enter Tryz.func221,Tryz.ntmps221;go_wp2_with fail
 exact⟨rfl,rfl,rfl⟩
structure LT (T:TypeId) (FL:FuncId):Prop where
 m:∀(p:Nat) (w:World),(method 414 T (.pointer (some ⟨p,0, none⟩)) "almanac/slots.loopOut").run Tryz.prog w = .ok (FL,.pointer (some ⟨p,0,none⟩)) w
 n:∀(p:Nat) (w:World),(nilAhead 414 T (.pointer (some ⟨p,0, none⟩)) "almanac/slots.loopOut").run Tryz.prog w = .ok (some false) w
 e:∀(args:Array Value) (w:World),(callFunc FL args).run Tryz.prog w = .ok (.enter FL args) w
theorem iK(T:TypeId)(F:FuncId)(hM:MT T F)(p sb:Nat)(u:FrameMode)(w:World)(hs:w.cell? ⟨sb,0,none⟩=some (.iface T (.pointer (some ⟨p,0,none⟩))))(h5:w.cell? ⟨p,5,none⟩=some (.bool false)) :
 CallsD Tryz.prog 117 #[.pointer (some ⟨sb,0,none⟩)] u w fun e u' w'=>u'=u/\(e = .returned (.tuple #[])/\w'=w):=by
 have m1:=hM.isLooped;have m2:=hM.nisLooped;go_enter_d Tryz.func117,Tryz.ntmps117
 go_wp2_with fail
 refine (uA p false _ h5).mono ?_;rintro e w1⟨rfl,rfl⟩;go_wp2;go_end0
 exact⟨rfl,rfl⟩
theorem mI(T:TypeId)(F FL:FuncId)(hM:MT T F)(hL:LT T FL)(p sb:Nat)(T':TypeId)(pv:Value)(older:List PanicEntry)(w:World)(S:World->Prop)(hs:w.cell? ⟨sb,0,none⟩=some (.iface T (.pointer (some ⟨p,0,none⟩))))(h5:w.cell? ⟨p,5,none⟩=some (.bool true))(HL:Calls Tryz.prog FL #[.pointer (some ⟨p,0,none⟩)] w fun e w'=>e = .returned (.tuple #[])/\S w') :
 CallsD Tryz.prog 117 #[.pointer (some ⟨sb,0,none⟩)] (.panicking ({v:=.iface T' pv,recovered:=false}::older)) w fun e u' w'=>e = .returned (.tuple #[])/\u' = .panicking ({v:=.iface T' pv,recovered:=true}::older)/\S w':=by
 have m1:=hM.isLooped;have m2:=hM.nisLooped;have m3:=hL.m;have m4:=hL.n;have m5:=hL.e;have HLH:=hid HL;clear HL;refine callsD_of_wpS Tryz.func117 rfl fun c₀ cs hu=>?_;have HU:=hid hu;clear hu;apply wpS_seq;apply wpS_of_wp;go_wp2_with fail
 refine (uA p true _ h5).mono ?_;rintro e w1⟨rfl,rfl⟩;go_wp2_with fail
 simp only[Exit.thenS];refine wpS_cond (t:=true) (by simp[Act.eval,Array.replicate]) ?_;simp only[if_true];apply wpS_seq;apply wpS_region;have hu:=HU.out;simp[wpOpsS,go_sem,recoverD,hu,Exit.thenS];clear hu;apply wpS_of_wp;go_wp2_with fail
 refine HLH.out.mono ?_;rintro e w2⟨rfl,hS⟩;go_wp2_with fail
 exact⟨rfl,_,rfl,_,results_none rfl _ _ _,rfl,rfl,hS⟩
end Go.Proofs.YthibodlojlkppaaGreatDoor

import Derived.Test.YthibodlojlkppaaGreatDoorZ18
set_option linter.all false
set_option maxRecDepth 100000
set_option maxHeartbeats 40000000
namespace Go.Proofs.YthibodlojlkppaaGreatDoor
open Go.RowKit
def fI:Nat->List UInt8->List (List UInt8)
 | 0,_=>[]
 | _+1,[]=>[[]]
 | f+1,c::r=>
  if c.toNat=10 then fI f r
  else if c.toNat=32 then fI f r
  else if c.toNat=9 then fI f r
  else if c.toNat=35 then fI f ((c::r).drop (kB (c::r)))
  else (c::r).take (iE (c::r))::fI f ((c::r).drop (iE (c::r)))
theorem D7(s:ByteArray)(a:Nat):(s.extract a s.size).data.toList=s.data.toList.drop a:=by
 rw[<-Lib.toList_data,Lib.extract_toList,List.take_of_length_le (by simp)]
theorem hY(s:ByteArray):∀(f a line ls:Nat),(kO s f a line ls).map Tok.text=(fI f (s.data.toList.drop a)).map fun l=>⟨l.toArray⟩
 | 0,_,_,_=>rfl
 | f+1,a,line,ls=>by
  by_cases h:a<s.size
  . have hl:a<s.data.toList.length:=by simpa using h
    have e:s.data.toList.drop a=s[a]::s.data.toList.drop (a+1):=by
     rw[List.drop_eq_getElem_cons hl,Array.getElem_toList];rfl
    have eT:gE s a=iE (s[a]::s.data.toList.drop (a+1)):=by unfold gE;rw[D7,e]
    have eC:rV s a=kB (s[a]::s.data.toList.drop (a+1)):=by unfold rV;rw[D7,e]
    have ed:∀n,(s[a]::s.data.toList.drop (a+1)).drop n=s.data.toList.drop (a+n):=fun n=>by rw[<-e,List.drop_drop]
    rw[nM s f a line ls h,e];simp only[fI];split
    . exact hY s f _ _ _
    . split
      . exact hY s f _ _ _
      . split
        . exact hY s f _ _ _
        . split
          . rw[hY s f,ed,eC]
          . rw[List.map_cons,List.map_cons,hY s f,ed,eT]
            congr 1;apply ByteArray.ext;apply Array.toList_inj.1;rw[<-eT,<-e,<-Lib.toList_data,Lib.extract_toList];show (s.data.toList.drop a).take (a+gE s a-a)=(s.data.toList.drop a).take (gE s a);rw[Nat.add_sub_cancel_left]
  . have hl : s.data.toList.length ≤ a := by have:s.data.toList.length=s.size:=Array.length_toList
                                             omega
    rw[tD s f a line ls h,List.drop_of_length_le hl];rfl
theorem Iu{c:UInt8}{r:List UInt8}(h:c.toNat=35):1<=kB (c::r):=by
 have hne:(c != 10)=true:=by
  rw[bne_iff_ne];intro e;rw[e] at h;simp at h
 simp[kB,List.takeWhile,hne]
theorem kM:∀(n f g:Nat) (l:List UInt8),l.length<=n->l.length<f->l.length<g->fI f l=fI g l
 | n,0,g,l,_,h,_=>by omega
 | n,f+1,0,l,_,_,h=>by omega
 | n,f+1,g+1,[],_,_,_=>rfl
 | 0,f+1,g+1,c::r,h,_,_=>by simp at h
 | n+1,f+1,g+1,c::r,h,h1,h2=>by
  simp only[List.length_cons] at h h1 h2;have hd:∀k,1<=k->((c::r).drop k).length<=r.length:=fun k hk=>by simp;omega
  have ht:=(yT c r).1;simp only[fI];rw[kM n f g r (by omega) (by omega) (by omega),kM n f g ((c::r).drop (iE (c::r))) (by have:=hd _ ht;omega) (by have:=hd _ ht;omega) (by have:=hd _ ht;omega)];by_cases hc:c.toNat=35
  . have hk:=Iu (r:=r) hc
    rw[kM n f g ((c::r).drop (kB (c::r))) (by have:=hd _ hk;omega) (by have:=hd _ hk;omega) (by have:=hd _ hk;omega)]
  . simp only[if_neg hc]
def words(l:List UInt8):List (List UInt8):=fI (l.length+1) l
theorem pX(s:ByteArray):(aN s).map Tok.text=(words s.data.toList).map fun l=>⟨l.toArray⟩:=by
 unfold aN words;rw[hY,List.drop_zero];have:s.data.toList.length=s.size:=Array.length_toList
 rw[this]
theorem Fq:words [] = [[]]:=rfl
theorem rR{c:UInt8}(h:c.toNat=10\/c.toNat=32\/c.toNat=9)(r:List UInt8):words (c::r)=words r:=by
 show fI (r.length+1+1) (c::r)=fI (r.length+1) r;simp only[fI];rcases h with h|h|h <;> simp[h]
theorem nX{c:UInt8}(h1:c.toNat≠10)(h2:c.toNat≠32)(h3:c.toNat≠9)(h4:c.toNat≠35)(r:List UInt8):words (c::r)=(c::r).take (iE (c::r))::words ((c::r).drop (iE (c::r))):=by
 have ht:=yT c r;show fI (r.length+1+1) (c::r)=_;simp only[fI,if_neg h1,if_neg h2,if_neg h3,if_neg h4];congr 1;exact kM r.length _ _ _ (by simp;omega) (by simp;omega) (by omega)
theorem vU{p:Int->Bool}:∀(l r:List UInt8),(∀c∈l,p c.toNat=true)->(∀c,r.head? = some c->p c.toNat=false)->jI p (l++r)=l.length
 | [],[],_,_=>rfl
 | [],c::r,_,h=>by
  have:=h c rfl
  simp[jI,this]
 | x::l,r,h1,h2=>by
  have ih:=vU l r (fun c hc=>h1 c (List.mem_cons_of_mem _ hc)) h2;have hx:=h1 x (by simp);unfold jI at ih ⊢;rw[List.cons_append,List.takeWhile_cons,if_pos hx,List.length_cons,ih];rfl
theorem qU{c:UInt8}{l r:List UInt8}(h1:∀x∈c::l,bI x.toNat=true)(h2:∀x,r.head? = some x->bI x.toNat=false):words (c::(l++r))=(c::l)::words r:=by
 have hc:=h1 c (by simp);have hb:97<=c.toNat:=by
  have:=hc
  simp only[bI,Bool.and_eq_true,decide_eq_true_eq] at this;omega
 have ht:iE (c::(l++r))=(c::l).length:=by
  unfold iE;simp only[hc,if_true];exact vU (c::l) r h1 h2
 rw[nX (by omega) (by omega) (by omega) (by omega),ht];rw[show c::(l++r)=(c::l)++r from rfl,List.take_left,List.drop_left]
theorem Fs{c:UInt8}{l r:List UInt8}(h1:∀x∈c::l,aQ x.toNat=true)(h2:∀x,r.head? = some x->aQ x.toNat=false):words (c::(l++r))=(c::l)::words r:=by
 have hc:=h1 c (by simp);have hb:48<=c.toNat/\c.toNat<=57:=by
  have:=hc
  simp only[aQ,Bool.and_eq_true,decide_eq_true_eq] at this;omega
 have hn:bI c.toNat=false:=by
  unfold bI;simp only[Bool.and_eq_false_iff,decide_eq_false_iff_not];omega
 have ht:iE (c::(l++r))=(c::l).length:=by
  unfold iE;simp only[hn,hc,if_true];exact vU (c::l) r h1 h2
 rw[nX (by omega) (by omega) (by omega) (by omega),ht];rw[show c::(l++r)=(c::l)++r from rfl,List.take_left,List.drop_left]
theorem fQ{c:UInt8}{r:List UInt8}(h1:bI c.toNat=false)(h2:aQ c.toNat=false)(h3:Lib.hasPrefix (c::r) [61,61]=false)(h4:c.toNat≠10/\c.toNat≠32/\c.toNat≠9/\c.toNat≠35):words (c::r) = [c]::words r:=by
 have ht:iE (c::r)=1:=by unfold iE;simp[h1,h2,h3]
 rw[nX h4.1 h4.2.1 h4.2.2.1 h4.2.2.2,ht];rfl
theorem yH(r:List UInt8):words (61::61::r) = [61,61]::words r:=by
 have ht:iE (61::61::r)=2:=by
  unfold iE;have h1:bI ((61:UInt8).toNat)=false:=by decide
  have h2:aQ ((61:UInt8).toNat)=false:=by decide
  have h3:Lib.hasPrefix (61::61::r) [61,61]=true:=by simp[Lib.hasPrefix]
  simp only[h1,h2,h3];rfl
 rw[nX (by decide) (by decide) (by decide) (by decide),ht];rfl
end Go.Proofs.YthibodlojlkppaaGreatDoor
namespace Go.Proofs.YthibodlojlkppaaGreatDoor
open Go.RowKit
variable [DecidableEq K] [LawfulBEq Lk]
abbrev O4:=Nat ⊕ Nat ⊕ Unit ⊕ Unit ⊕ Unit ⊕ Unit
def Pk:O4->Type
 | .inl _=>Empty
 | .inr (.inl _)=>Empty
 | .inr (.inr _)=>Bool
structure PE where
 lab:O4
 sub:Pk lab->PE
abbrev PE.num(n:Nat):PE:=⟨.inl n,Empty.elim⟩
abbrev PE.ref(k:Nat):PE:=⟨.inr (.inl k),Empty.elim⟩
abbrev PE.add(a b:PE):PE:=⟨.inr (.inr (.inl ())),two a b⟩
abbrev PE.mul(a b:PE):PE:=⟨.inr (.inr (.inr (.inl ()))),two a b⟩
abbrev PE.iteA(a b:PE):PE:=⟨.inr (.inr (.inr (.inr (.inl ())))),two a b⟩
abbrev PE.iteB(a b:PE):PE:=⟨.inr (.inr (.inr (.inr (.inr ())))),two a b⟩
def vV(k:Nat):List UInt8:=[118,UInt8.ofNat (97+k)]
def fC(k:Nat):ByteArray:=⟨(vV k).toArray⟩
def Jd(n:Nat):List UInt8:=[UInt8.ofNat (48+n)]
def PE.t:PE->List UInt8
 | ⟨.inl n,_⟩=>Jd n
 | ⟨.inr (.inl k),_⟩=>vV k
 | ⟨.inr (.inr (.inl _)),s'⟩=>40::((s' false).t++(32::43::32::((s' true).t ++ [41])))
 | ⟨.inr (.inr (.inr (.inl _))),s'⟩=>40::((s' false).t++(41::42::40::((s' true).t ++ [41])))
 | ⟨.inr (.inr (.inr (.inr (.inl _)))),s'⟩=>105::102::32::((s' false).t++(32::61::61::32::((s' true).t++(32::116::104::101::110::32::((s' false).t ++ [32,101,108,115,101,32,49,32,101,110,100])))))
 | ⟨.inr (.inr (.inr (.inr (.inr _)))),s'⟩=>105::102::32::((s' false).t++(32::61::61::32::((s' true).t++(32::116::104::101::110::32::49::32::101::108::115::101::32::((s' true).t ++ [32,101,110,100])))))
def PE.w:PE->List (List UInt8)
 | ⟨.inl n,_⟩=>[Jd n]
 | ⟨.inr (.inl k),_⟩=>[vV k]
 | ⟨.inr (.inr (.inl _)),s'⟩=>[40]::((s' false).w++([43]::((s' true).w ++ [[41]])))
 | ⟨.inr (.inr (.inr (.inl _))),s'⟩=>[40]::((s' false).w++([41]::[42]::[40]::((s' true).w ++ [[41]])))
 | ⟨.inr (.inr (.inr (.inr (.inl _)))),s'⟩=>[105,102]::((s' false).w++([61,61]::((s' true).w++([116,104,101,110]::((s' false).w ++ [[101,108,115,101],[49],[101,110,100]])))))
 | ⟨.inr (.inr (.inr (.inr (.inr _)))),s'⟩=>[105,102]::((s' false).w++([61,61]::((s' true).w++([116,104,101,110]::[49]::[101,108,115,101]::((s' true).w ++ [[101,110,100]])))))
def PE.x:PE->Ex
 | ⟨.inl n,_⟩=>.num n
 | ⟨.inr (.inl k),_⟩=>.nam (fC k)
 | ⟨.inr (.inr (.inl _)),s'⟩=>.pair [43] (s' false).x (s' true).x
 | ⟨.inr (.inr (.inr (.inl _))),s'⟩=>.pair [42] (s' false).x (s' true).x
 | ⟨.inr (.inr (.inr (.inr (.inl _)))),s'⟩=>.choice (.pair [61,61] (s' false).x (s' true).x) (s' false).x (.num 1)
 | ⟨.inr (.inr (.inr (.inr (.inr _)))),s'⟩=>.choice (.pair [61,61] (s' false).x (s' true).x) (.num 1) (s' true).x
def PE.ok(m:Nat):PE->Prop
 | ⟨.inl n,_⟩=>n<10
 | ⟨.inr (.inl k),_⟩=>k<m/\k<10
 | ⟨.inr (.inr (.inl _)),s'⟩=>(s' false).ok m/\(s' true).ok m
 | ⟨.inr (.inr (.inr (.inl _))),s'⟩=>(s' false).ok m/\(s' true).ok m
 | ⟨.inr (.inr (.inr (.inr (.inl _)))),s'⟩=>(s' false).ok m/\(s' true).ok m
 | ⟨.inr (.inr (.inr (.inr (.inr _)))),s'⟩=>(s' false).ok m/\(s' true).ok m
def PE.dep:PE->Nat
 | ⟨.inl _,_⟩=>0
 | ⟨.inr (.inl _),_⟩=>0
 | ⟨.inr (.inr (.inl _)),s'⟩=>(s' false).dep+(s' true).dep+1
 | ⟨.inr (.inr (.inr (.inl _))),s'⟩=>(s' false).dep+(s' true).dep+1
 | ⟨.inr (.inr (.inr (.inr (.inl _)))),s'⟩=>(s' false).dep+(s' true).dep+1
 | ⟨.inr (.inr (.inr (.inr (.inr _)))),s'⟩=>(s' false).dep+(s' true).dep+1
def PE.fu:PE->Nat
 | ⟨.inl _,_⟩=>4
 | ⟨.inr (.inl _),_⟩=>4
 | ⟨.inr (.inr (.inl _)),s'⟩=>(s' false).fu+(s' true).fu+10
 | ⟨.inr (.inr (.inr (.inl _))),s'⟩=>(s' false).fu+(s' true).fu+10
 | ⟨.inr (.inr (.inr (.inr (.inl _)))),s'⟩=>(s' false).fu+(s' true).fu+10
 | ⟨.inr (.inr (.inr (.inr (.inr _)))),s'⟩=>(s' false).fu+(s' true).fu+10
def Nx(r:List UInt8):Prop:=∀c,r.head? = some c->bI c.toNat=false/\aQ c.toNat=false
theorem tC{c:UInt8}{r:List UInt8}(h1:bI c.toNat=false)(h2:aQ c.toNat=false):Nx (c::r):=fun x hx=>by
 cases hx;exact⟨h1,h2⟩
theorem KU:∀{n:Nat},n<10->aQ (UInt8.ofNat (48+n)).toNat=true:=by decide
theorem KV:∀{k:Nat},k<10->bI (UInt8.ofNat (97+k)).toNat=true:=by decide
theorem Nr{n:Nat}(h:n<10){r:List UInt8}(hr:Nx r):words (Jd n++r)=Jd n::words r:=
 Fs (c:=UInt8.ofNat (48+n)) (l:=[]) (fun x hx=>by rw[List.mem_singleton.1 hx];exact KU h) fun x hx=>(hr x hx).2
theorem Ns{k:Nat}(h:k<10){r:List UInt8}(hr:Nx r):words (vV k++r)=vV k::words r:=
 qU (c:=118) (l:=[UInt8.ofNat (97+k)]) (fun x hx=>by
  rcases List.mem_cons.1 hx with rfl|hx
  . decide
  . rw[List.mem_singleton.1 hx];exact KV h) fun x hx=>(hr x hx).1
theorem mD(r:List UInt8):words (32::r)=words r:=rR (.inr (.inl (by decide))) r
theorem Nt(r:List UInt8):words (10::r)=words r:=rR (.inl (by decide)) r
theorem L7(r:List UInt8):words (40::r) = [40]::words r:=fQ (by decide) (by decide) (by simp[Lib.hasPrefix,List.isPrefixOf]) (by decide)
theorem Ma(r:List UInt8):words (41::r) = [41]::words r:=fQ (by decide) (by decide) (by simp[Lib.hasPrefix,List.isPrefixOf]) (by decide)
theorem Oz(r:List UInt8):words (42::r) = [42]::words r:=fQ (by decide) (by decide) (by simp[Lib.hasPrefix,List.isPrefixOf]) (by decide)
theorem OA(r:List UInt8):words (43::r) = [43]::words r:=fQ (by decide) (by decide) (by simp[Lib.hasPrefix,List.isPrefixOf]) (by decide)
theorem OB(r:List UInt8):words (58::r) = [58]::words r:=fQ (by decide) (by decide) (by simp[Lib.hasPrefix,List.isPrefixOf]) (by decide)
theorem Nu(r:List UInt8):words (59::r) = [59]::words r:=fQ (by decide) (by decide) (by simp[Lib.hasPrefix,List.isPrefixOf]) (by decide)
theorem OC(r:List UInt8):words (61::32::r) = [61]::words (32::r):=fQ (by decide) (by decide) (by simp[Lib.hasPrefix,List.isPrefixOf]) (by decide)
theorem BX{c:UInt8}{l r:List UInt8}(h:(c::l).all (fun x=>bI x.toNat)=true)(hr:Nx r):words (c::(l++r))=(c::l)::words r:=
 qU (fun x hx=>List.all_eq_true.1 h x hx) fun x hx=>(hr x hx).1
theorem j5{r:List UInt8}:Nx (32::r):=tC (by decide) (by decide)
theorem Iv{r:List UInt8}:Nx (41::r):=tC (by decide) (by decide)
theorem KW{r:List UInt8}:Nx (59::r):=tC (by decide) (by decide)
theorem Nv(r:List UInt8):words (105::102::32::r) = [105,102]::words r:=by
 rw[show (105::102::32::r:List UInt8)=105::([102]++32::r) from rfl,BX (by decide) j5,mD]
theorem Iw(r:List UInt8):words (116::104::101::110::32::r) = [116,104,101,110]::words r:=by
 rw[show (116::104::101::110::32::r:List UInt8)=116::([104,101,110]++32::r) from rfl,BX (by decide) j5,mD]
theorem Ix(r:List UInt8):words (101::108::115::101::32::r) = [101,108,115,101]::words r:=by
 rw[show (101::108::115::101::32::r:List UInt8)=101::([108,115,101]++32::r) from rfl,BX (by decide) j5,mD]
theorem KX{r:List UInt8}(hr:Nx r):words (101::110::100::r) = [101,110,100]::words r:=by
 rw[show (101::110::100::r:List UInt8)=101::([110,100]++r) from rfl,BX (by decide) hr]
theorem KY(r:List UInt8):words (49::32::r) = [49]::words r:=by
 have:=Nr (n:=1) (by decide) (j5 (r:=r))
 rw[mD] at this;exact this
theorem PE.words{m:Nat}:∀(e:PE),e.ok m->∀(r:List UInt8),Nx r->Go.Proofs.YthibodlojlkppaaGreatDoor.words (e.t++r)=e.w++Go.Proofs.YthibodlojlkppaaGreatDoor.words r
 | ⟨.inl n,_⟩,h,r,hr=>Nr h hr
 | ⟨.inr (.inl k),_⟩,h,r,hr=>Ns h.2 hr
 | ⟨.inr (.inr (.inl _)),s'⟩,h,r,hr=>by
  simp only[PE.t,PE.w,List.cons_append,List.append_assoc,List.nil_append,two];rw[L7,PE.words (s' false) h.1 _ j5,mD,OA,mD,PE.words (s' true) h.2 _ Iv,Ma]
 | ⟨.inr (.inr (.inr (.inl _))),s'⟩,h,r,hr=>by
  simp only[PE.t,PE.w,List.cons_append,List.append_assoc,List.nil_append,two];rw[L7,PE.words (s' false) h.1 _ Iv,Ma,Oz,L7,PE.words (s' true) h.2 _ Iv,Ma]
 | ⟨.inr (.inr (.inr (.inr (.inl _)))),s'⟩,h,r,hr=>by
  simp only[PE.t,PE.w,List.cons_append,List.append_assoc,List.nil_append,two];rw[Nv,PE.words (s' false) h.1 _ j5,mD,yH,mD,PE.words (s' true) h.2 _ j5,mD,Iw,PE.words (s' false) h.1 _ j5,mD,Ix,KY,KX hr]
 | ⟨.inr (.inr (.inr (.inr (.inr _)))),s'⟩,h,r,hr=>by
  simp only[PE.t,PE.w,List.cons_append,List.append_assoc,List.nil_append,two];rw[Nv,PE.words (s' false) h.1 _ j5,mD,yH,mD,PE.words (s' true) h.2 _ j5,mD,Iw,KY,Ix,PE.words (s' true) h.2 _ j5,mD,KX hr]
def kF(toks:List Tok):Nat->List (List UInt8)->Prop
 | _,[]=>True
 | a,x::xs=>tx toks a=⟨x.toArray⟩/\kF toks (a+1) xs
theorem kF.app{toks:List Tok}:∀{a:Nat} (xs:List (List UInt8)) {ys:List (List UInt8)},kF toks a (xs++ys)↔kF toks a xs/\kF toks (a+xs.length) ys
 | a,[],ys=>by simp[kF]
 | a,x::xs,ys=>by
  rw[List.cons_append];simp only[kF,List.length_cons];rw[kF.app (a:=a+1) xs,show a+1+xs.length=a+(xs.length+1) by omega,and_assoc]
theorem Iy(toks:List Tok):∀(xs:List (List UInt8)) (a:Nat),(toks.drop a).map Tok.text=xs.map (fun l=>(⟨l.toArray⟩:ByteArray))->kF toks a xs
 | [],_,_=>trivial
 | x::xs,a,h=>by
  cases hd:toks.drop a with
  | nil=>rw[hd] at h;simp at h
  | cons t r=>
   rw[hd] at h;simp only[List.map_cons,List.cons.injEq] at h;refine⟨?_,Iy toks xs (a+1) ?_⟩
   . have:toks[a]? = some t:=by
      have:=congrArg (fun l=>l[0]?) hd
      simpa using this
     unfold tx;rw[this];exact h.1
   . have:toks.drop (a+1)=r:=by rw[<-List.drop_drop,hd];rfl
     rw[this];exact h.2
theorem Kq(s:ByteArray):kF (aN s) 0 (words s.data.toList):=Iy _ _ 0 (pX s)
theorem bC{toks:List Tok}{a:Nat}{x:List UInt8}(h:tx toks a=⟨x.toArray⟩)(l:List UInt8):cC toks a l=(x==l):=by
 unfold cC;rw[h,Lib.toList_data]
theorem BZ{n:Nat}(h:n<10):fR ⟨(Jd n).toArray⟩=some (.num n):=by
 revert h;revert n;have:∀n<10,fR ⟨(Jd n).toArray⟩=some (.num n):=fun n h=>by
  rcases (show n=0\/n=1\/n=2\/n=3\/n=4\/n=5\/n=6\/n=7\/n=8\/n=9 by omega) with rfl|rfl|rfl|rfl|rfl|rfl|rfl|rfl|rfl|rfl <;> kernel_rfl
 exact fun {n} h=>this n h
theorem Iz{k:Nat}(h:k<10):fR ⟨(vV k).toArray⟩=some (.nam (fC k)):=by
 rcases (show k=0\/k=1\/k=2\/k=3\/k=4\/k=5\/k=6\/k=7\/k=8\/k=9 by omega) with rfl|rfl|rfl|rfl|rfl|rfl|rfl|rfl|rfl|rfl <;> kernel_rfl
section
variable {toks:List Tok}
theorem vW{f nest a:Nat}{acc v:Ex}{x:List UInt8}(h:tx toks a=⟨x.toArray⟩)(h1:(x == [40])=false)(h2:(x == [105,102])=false)(hv:fR ⟨x.toArray⟩=some v):PX toks (f+1) 3 nest a acc=some (a+1,some v):=by
 simp only[PX,bC h,h1,h2,h,hv];simp
theorem IA{f nest a:Nat}{acc:Ex}(h:cC toks a [42]=false):PX toks (f+1) 5 nest a acc=some (a,some acc):=by
 rw[PX,h]
 . rfl
 all_goals simp
theorem Al{f nest a:Nat}{acc:Ex}(h:cC toks a [43]=false):PX toks (f+1) 4 nest a acc=some (a,some acc):=by
 rw[PX,h];rfl
theorem qV{f nest a b:Nat}{acc x:Ex}(h:PX toks (f+1) 3 nest a (.tru true)=some (b,some x))(hb:cC toks b [42]=false):PX toks (f+2) 2 nest a acc=some (b,some x):=by
 rw[PX,h];exact IA hb
theorem qW{f nest a b:Nat}{acc x:Ex}(h:PX toks (f+1) 2 nest a (.tru true)=some (b,some x))(h1:cC toks b [43]=false)(h2:cC toks b [61,61]=false):PX toks (f+3) 0 nest a acc=some (b,some x):=by
 have e1:PX toks (f+2) 1 nest a (.tru true)=some (b,some x):=by
  rw[PX,h];exact Al h1
 rw[PX,e1];simp only[mO,h2];rfl
theorem Kr{f nest a b c:Nat}{acc x y:Ex}(h:PX toks (f+2) 2 nest a (.tru true)=some (b,some x))(h1:cC toks b [43]=true)(h2:PX toks (f+1) 2 nest (b+1) (.tru true)=some (c,some y))(h3:cC toks c [43]=false)(h4:cC toks c [61,61]=false):PX toks (f+4) 0 nest a acc=some (c,some (.pair [43] x y)):=by
 have e1:PX toks (f+3) 1 nest a (.tru true)=some (c,some (.pair [43] x y)):=by
  rw[PX,h];show PX toks (f+2) 4 nest b x=_;rw[PX,h1,if_pos rfl,h2];exact Al h3
 rw[PX,e1];simp only[mO,h4];rfl
theorem IB{f nest a b c:Nat}{acc x y:Ex}(h:PX toks (f+1) 2 nest a (.tru true)=some (b,some x))(h1:cC toks b [43]=false)(h2:cC toks b [61,61]=true)(h3:PX toks (f+1) 2 nest (b+1) (.tru true)=some (c,some y))(h4:cC toks c [43]=false):PX toks (f+3) 0 nest a acc=some (c,some (.pair [61,61] x y)):=by
 have e1:PX toks (f+2) 1 nest a (.tru true)=some (b,some x):=by
  rw[PX,h];exact Al h1
 have e2:PX toks (f+2) 1 nest (b+1) (.tru true)=some (c,some y):=by
  rw[PX,h3];exact Al h4
 rw[PX,e1];simp only[mO,h2,if_true,e2]
theorem Am{f nest a b:Nat}{acc x:Ex}(h0:cC toks a [40]=true)(hn:nest<20)(h:PX toks f 0 (nest+1) (a+1) (.tru true)=some (b,some x))(h1:cC toks b [41]=true):PX toks (f+1) 3 nest a acc=some (b+1,some x):=by
 rw[PX,h0,if_pos rfl,if_neg (by omega),h];simp only[mO,h1,if_true]
theorem IC{f nest a b c d:Nat}{acc x y z:Ex}(h00:cC toks a [40]=false)(h0:cC toks a [105,102]=true)(hn:nest<20)(h:PX toks f 0 (nest+1) (a+1) (.tru true)=some (b,some x))(h1:cC toks b [116,104,101,110]=true)
 (h2:PX toks f 0 (nest+1) (b+1) (.tru true)=some (c,some y)) (h3:cC toks c [101,108,115,101]=true) (h4:PX toks f 0 (nest+1) (c+1) (.tru true)=some (d,some z)) (h5:cC toks d [101,110,100]=true):PX toks (f+1) 3 nest a acc=some (d+1,some (.choice x y z)):=by
 rw[PX,h00,if_neg (by simp),h0,if_pos rfl,if_neg (by omega),h];simp only[mO,h1,if_true,h2,h3,h4,h5]
def OD(toks:List Tok)(b:Nat):Prop:=cC toks b [42]=false/\cC toks b [43]=false/\cC toks b [61,61]=false
theorem o7{b:Nat}{x:List UInt8}(h:tx toks b=⟨x.toArray⟩)(h1:(x == [42])=false)(h2:(x == [43])=false)(h3:(x == [61,61])=false):OD toks b:=
 ⟨by rw[bC h,h1],by rw[bC h,h2],by rw[bC h,h3]⟩
theorem PE.fu_ge:∀(e:PE),4<=e.fu:=fun e=>by rcases e with ⟨(n|n|n|n|n|n),s⟩ <;> simp[PE.fu];all_goals omega
theorem D8{f nest a:Nat}(hw:tx toks a=⟨([49]:List UInt8).toArray⟩)(hs:OD toks (a+1))(hf:5<=f):PX toks f 0 nest a (.tru true)=some (a+1,some (.num 1)):=by
 obtain⟨g,rfl⟩:∃g,f=g+5:=⟨f-5,by omega⟩
 refine qW (f:=g+2) ?_ hs.2.1 hs.2.2;exact qV (f:=g+1) (vW (x:=[49]) hw (by decide) (by decide) (BZ (n:=1) (by decide))) hs.1
theorem PE.read{m:Nat}:∀(e:PE),e.ok m->∀(f nest a:Nat),e.fu<=f->nest+e.dep<20->kF toks a e.w->cC toks (a+e.w.length) [42]=false->PX toks f 2 nest a (.tru true)=some (a+e.w.length,some e.x)
 | ⟨.inl n,_⟩,h,f,nest,a,hf,hn,hw,hs=>by
  obtain⟨g,rfl⟩:∃g,f=g+2:=⟨f-2,by simp only[PE.fu,two] at hf;omega⟩
  refine qV (vW hw.1 ?_ ?_ (BZ h)) hs
  . have:=KU h
    cases hx:(Jd n == [40]) with
    | false=>rfl
    | true=>
     have e:=eq_of_beq hx;simp only[Jd,List.cons.injEq,and_true] at e;rw[e] at this;revert this;decide
  . simp[Jd]
 | ⟨.inr (.inl k),_⟩,h,f,nest,a,hf,hn,hw,hs=>by
  obtain⟨g,rfl⟩:∃g,f=g+2:=⟨f-2,by simp only[PE.fu,two] at hf;omega⟩
  exact qV (vW hw.1 (by simp[vV]) (by simp[vV]) (Iz h.2)) hs
 | ⟨.inr (.inr (.inl _)),s'⟩,h,f,nest,i,hf,hn,hw,hs=>by
  simp only[PE.fu,two] at hf;simp only[PE.dep,two] at hn;obtain⟨g,rfl⟩:∃g,f=g+10:=⟨f-10,by omega⟩
  simp only[PE.w,kF,List.length_cons,List.length_append,List.length_nil,two] at hw hs ⊢;obtain⟨h0,hw⟩:=hw;rw[kF.app] at hw;obtain⟨hA,hw⟩:=hw;simp only[kF] at hw;obtain⟨hP,hw⟩:=hw;rw[kF.app] at hw;obtain⟨hB,hw⟩:=hw;simp only[kF] at hw;have eA:=PE.read (s' false) h.1 (g+6) (nest+1) (i+1) (by omega) (by omega) hA (by rw[bC hP];decide);have eB:=PE.read (s' true) h.2 (g+5) (nest+1) (i+1+(s' false).w.length+1) (by omega) (by omega) hB (by rw[bC hw.1];decide);have e0:=Kr (acc:=.tru true) (f:=g+4) eA (by rw[bC hP];decide) eB (by rw[bC hw.1];decide) (by rw[bC hw.1];decide);have e3:=Am (acc:=.tru true) (f:=g+8) (by rw[bC h0];decide) (by omega) e0 (by rw[bC hw.1];decide);have e2:=qV (acc:=.tru true) (f:=g+8) e3 ((congrArg (fun z=>cC toks z [42]) (by omega)).trans hs);rw[e2];simp only[PE.x,Option.some.injEq,Prod.mk.injEq,and_true,two];omega
 | ⟨.inr (.inr (.inr (.inl _))),s'⟩,h,f,nest,i,hf,hn,hw,hs=>by
  simp only[PE.fu,two] at hf;simp only[PE.dep,two] at hn;obtain⟨g,rfl⟩:∃g,f=g+10:=⟨f-10,by omega⟩
  simp only[PE.w,kF,List.length_cons,List.length_append,List.length_nil,two] at hw hs ⊢;obtain⟨h0,hw⟩:=hw;rw[kF.app] at hw;obtain⟨hA,hw⟩:=hw;simp only[kF] at hw;obtain⟨hR,hS,hL,hw⟩:=hw;rw[kF.app] at hw;obtain⟨hB,hw⟩:=hw;simp only[kF] at hw;have sR:=o7 hR (by decide) (by decide) (by decide);have sR2:=o7 hw.1 (by decide) (by decide) (by decide);have eA:=qW (acc:=.tru true) (f:=g+5) (PE.read (s' false) h.1 (g+6) (nest+1) (i+1) (by omega) (by omega) hA sR.1) sR.2.1 sR.2.2;have eB:=qW (acc:=.tru true) (f:=g+4) (PE.read (s' true) h.2 (g+5) (nest+1) (i+1+(s' false).w.length+1+1+1) (by omega) (by omega) hB sR2.1) sR2.2.1 sR2.2.2;have e3:=Am (acc:=.tru true) (f:=g+8) (by rw[bC h0];decide) (by omega) eA (by rw[bC hR];decide);have e3':=Am (acc:=.tru true) (f:=g+7) (by rw[bC hL];decide) (by omega) eB (by rw[bC hw.1];decide);have hlast:cC toks (i+1+(s' false).w.length+1+1+1+(s' true).w.length+1) [42]=false:=(congrArg (fun z=>cC toks z [42]) (by omega)).trans hs;rw[PX,e3];show PX toks (g+9) 5 nest (i+1+(s' false).w.length+1) (s' false).x=_;rw[PX]
  . rw[bC hS,if_pos (by decide),e3']
    show PX toks (g+8) 5 nest _ _=_;rw[IA hlast];simp only[PE.x,Option.some.injEq,Prod.mk.injEq,and_true,two];omega
  all_goals simp
 | ⟨.inr (.inr (.inr (.inr (.inl _)))),s'⟩,h,f,nest,i,hf,hn,hw,hs=>by
  simp only[PE.fu,two] at hf;simp only[PE.dep,two] at hn;obtain⟨g,rfl⟩:∃g,f=g+10:=⟨f-10,by omega⟩
  simp only[PE.w,kF,List.length_cons,List.length_append,List.length_nil,two] at hw hs ⊢;obtain⟨h0,hw⟩:=hw;rw[kF.app] at hw;obtain⟨hA,hw⟩:=hw;simp only[kF] at hw;obtain⟨hE,hw⟩:=hw;rw[kF.app] at hw;obtain⟨hB,hw⟩:=hw;simp only[kF] at hw;obtain⟨hT,hw⟩:=hw;rw[kF.app] at hw;obtain⟨hA2,hw⟩:=hw;simp only[kF] at hw;obtain⟨hL,hO,hD,_⟩:=hw;have sL:=o7 hL (by decide) (by decide) (by decide);have sD:=o7 hD (by decide) (by decide) (by decide);have hfa:=PE.fu_ge (s' false);have eA:=PE.read (s' false) h.1 (g+6) (nest+1) (i+1) (by omega) (by omega) hA (by rw[bC hE];decide);have eB:=PE.read (s' true) h.2 (g+6) (nest+1) _ (by omega) (by omega) hB (by rw[bC hT];decide);have eC:=IB (acc:=.tru true) (f:=g+5) eA (by rw[bC hE];decide) (by rw[bC hE];decide) eB (by rw[bC hT];decide);have eY:=qW (acc:=.tru true) (f:=g+5) (PE.read (s' false) h.1 (g+6) (nest+1) _ (by omega) (by omega) hA2 sL.1) sL.2.1 sL.2.2;have eZ:=D8 (f:=g+8) (nest:=nest+1) hO sD (by omega);have e3:=IC (acc:=.tru true) (f:=g+8) (by rw[bC h0];decide) (by rw[bC h0];decide) (by omega) eC (by rw[bC hT];decide) eY (by rw[bC hL];decide) eZ (by rw[bC hD];decide);have e2:=qV (acc:=.tru true) (f:=g+8) e3 ((congrArg (fun z=>cC toks z [42]) (by omega)).trans hs);rw[e2];simp only[PE.x,Option.some.injEq,Prod.mk.injEq,and_true,two];omega
 | ⟨.inr (.inr (.inr (.inr (.inr _)))),s'⟩,h,f,nest,i,hf,hn,hw,hs=>by
  simp only[PE.fu,two] at hf;simp only[PE.dep,two] at hn;obtain⟨g,rfl⟩:∃g,f=g+10:=⟨f-10,by omega⟩
  simp only[PE.w,kF,List.length_cons,List.length_append,List.length_nil,two] at hw hs ⊢;obtain⟨h0,hw⟩:=hw;rw[kF.app] at hw;obtain⟨hA,hw⟩:=hw;simp only[kF] at hw;obtain⟨hE,hw⟩:=hw;rw[kF.app] at hw;obtain⟨hB,hw⟩:=hw;simp only[kF] at hw;obtain⟨hT,hO,hL,hw⟩:=hw;rw[kF.app] at hw;obtain⟨hB2,hw⟩:=hw;simp only[kF] at hw;obtain⟨hD,_⟩:=hw;have sL:=o7 hL (by decide) (by decide) (by decide);have sD:=o7 hD (by decide) (by decide) (by decide);have hfa:=PE.fu_ge (s' false);have eA:=PE.read (s' false) h.1 (g+6) (nest+1) (i+1) (by omega) (by omega) hA (by rw[bC hE];decide);have eB:=PE.read (s' true) h.2 (g+6) (nest+1) _ (by omega) (by omega) hB (by rw[bC hT];decide);have eC:=IB (acc:=.tru true) (f:=g+5) eA (by rw[bC hE];decide) (by rw[bC hE];decide) eB (by rw[bC hT];decide);have eY:=D8 (f:=g+8) (nest:=nest+1) hO sL (by omega);have eZ:=qW (acc:=.tru true) (f:=g+5) (PE.read (s' true) h.2 (g+6) (nest+1) _ (by omega) (by omega) hB2 sD.1) sD.2.1 sD.2.2;have e3:=IC (acc:=.tru true) (f:=g+8) (by rw[bC h0];decide) (by rw[bC h0];decide) (by omega) eC (by rw[bC hT];decide) eY (by rw[bC hL];decide) eZ (by rw[bC hD];decide);have e2:=qV (acc:=.tru true) (f:=g+8) e3 ((congrArg (fun z=>cC toks z [42]) (by omega)).trans hs);rw[e2];simp only[PE.x,Option.some.injEq,Prod.mk.injEq,and_true,two];omega
theorem PE.expr{m:Nat}{e:PE}(h:e.ok m)(hf:e.fu<=1690)(hd:e.dep<20){a:Nat}(hw:kF toks a e.w)(hs:OD toks (a+e.w.length)):iT toks a=(a+e.w.length,some e.x):=by
 unfold iT;rw[qW (f:=1697) (PE.read e h 1698 0 a (by omega) (by omega) hw hs.1) hs.2.1 hs.2.2];rfl
end
def Ks(u:Nat):List UInt8:=[UInt8.ofNat (97+u)]
def hZ(u:Nat):ByteArray:=⟨(Ks u).toArray⟩
def ID(u:Nat):List UInt8:=117::115::101::32::(Ks u ++ [59,10])
def IE(u:Nat):List (List UInt8):=[[117,115,101],Ks u,[59]]
def lI(k:Nat)(e:PE):List UInt8:=112::117::98::32::108::101::116::32::(vV k++(58::105::110::116::32::61::32::(e.t ++ [59,10])))
def nI(k:Nat)(e:PE):List (List UInt8):=[112,117,98]::[108,101,116]::vV k::[58]::[105,110,116]::[61]::(e.w ++ [[59]])
def lJ:List Nat->List UInt8
 | []=>[]
 | u::us=>ID u++lJ us
def rS:List Nat->List (List UInt8)
 | []=>[]
 | u::us=>IE u++rS us
def mK(us:List Nat)(k:Nat)(e e':PE):List UInt8:=lJ us++(lI k e++lI (k+1) e')
def yI(us:List Nat)(k:Nat)(e e':PE):List (List UInt8):=rS us++(nI k e++(nI (k+1) e' ++ [[]]))
theorem Nw:∀{u:Nat},u<10->bI (UInt8.ofNat (97+u)).toNat=true:=KV
theorem Ny{u:Nat}(h:u<10)(r:List UInt8):words (ID u++r)=IE u++words r:=by
 simp only[ID,IE,List.cons_append,List.append_assoc,List.nil_append];rw[show (117::115::101::32::(Ks u++59::10::r):List UInt8)=117::([115,101]++32::(Ks u++59::10::r)) from rfl,BX (by decide) j5,mD];rw[show Ks u++59::10::r=UInt8.ofNat (97+u)::([]++59::10::r) from rfl,qU (l:=[]) (fun x hx=>by rw[List.mem_singleton.1 hx];exact Nw h) (fun x hx=>(KW x hx).1),Nu,Nt];rfl
theorem Nz{r:List UInt8}:Nx (58::r):=tC (by decide) (by decide)
theorem IF{m k:Nat}{e:PE}(hk:k<10)(he:e.ok m)(r:List UInt8):words (lI k e++r)=nI k e++words r:=by
 simp only[lI,nI,List.cons_append,List.append_assoc,List.nil_append];rw[show (112::117::98::32::108::101::116::32::(vV k++58::105::110::116::32::61::32::(e.t++59::10::r)):List UInt8)=112::([117,98]++32::(108::([101,116]++32::(vV k++58::(105::([110,116]++32::(61::32::(e.t++59::10::r)))))))) from rfl,
  BX (by decide) j5,mD,BX (by decide) j5,mD,Ns hk Nz,OB,BX (by decide) j5,mD,OC,mD,PE.words e he _ KW,Nu,Nt]
theorem IG:∀(us:List Nat),(∀u∈us,u<10)->∀(r:List UInt8),words (lJ us++r)=rS us++words r
 | [],_,r=>rfl
 | u::us,h,r=>by
  simp only[lJ,rS,List.append_assoc];rw[Ny (h u (by simp)),IG us (fun x hx=>h x (List.mem_cons_of_mem _ hx))]
theorem Mb{us:List Nat}{m k:Nat}{e e':PE}(hu:∀u∈us,u<10)(hk:k+1<10)(he:e.ok m)(he':e'.ok m):words (mK us k e e')=yI us k e e':=by
 unfold mK yI;rw[IG us hu,IF (by omega) he,<-List.append_nil (lI (k+1) e'),IF hk he',Fq]
section
variable {toks:List Tok}
theorem IH{u:Nat}(h:u<6):bR ⟨(Ks u).toArray⟩=true:=by
 rcases (show u=0\/u=1\/u=2\/u=3\/u=4\/u=5 by omega) with rfl|rfl|rfl|rfl|rfl|rfl <;> kernel_rfl
theorem Kt{k:Nat}(h:k<10):bR ⟨(vV k).toArray⟩=true:=by
 rcases (show k=0\/k=1\/k=2\/k=3\/k=4\/k=5\/k=6\/k=7\/k=8\/k=9 by omega) with rfl|rfl|rfl|rfl|rfl|rfl|rfl|rfl|rfl|rfl <;> kernel_rfl
theorem D9{a:Nat}{x:List UInt8}(h:tx toks a=⟨x.toArray⟩)(hx:x ≠ []):bB (tx toks a) ⟨#[]⟩=false:=by
 rw[h];unfold bB;rw[Lib.toList_data,Lib.toList_data];cases x with
 | nil=>exact absurd rfl hx
 | cons c r=>rfl
theorem II{f a u:Nat}(hu:u<6)(hw:kF toks a (IE u)):cJ toks (f+1) a=(⟨0,a+1,hZ u,bA,none⟩::(cJ toks f (a+3)).1,(cJ toks f (a+3)).2):=by
 obtain⟨h0,h1,h2,_⟩:=hw;have e:gO toks a=(a+3,some ⟨0,a+1,hZ u,bA,none⟩):=by
  unfold gO;rw[bC h0,if_pos (by decide)];unfold AC;rw[h1,IH hu,if_pos rfl,bC h2,if_pos (by decide)];rfl
 rw[cJ,D9 h0 (by simp),if_neg (by simp),e]
theorem yJ{f a k:Nat}{m:Nat}{e:PE}(hk:k<10)(he:e.ok m)(hf:e.fu<=1690)(hd:e.dep<20)(hw:kF toks a (nI k e)) :
 cJ toks (f+1) a=(⟨2,a+2,fC k,eP,some e.x⟩::(cJ toks f (a+6+e.w.length+1)).1,(cJ toks f (a+6+e.w.length+1)).2):=by
 simp only[nI,kF] at hw;obtain⟨h0,h1,h2,h3,h4,h5,hw⟩:=hw;rw[kF.app] at hw;obtain⟨hE,h6,_⟩:=hw;have hx:=PE.expr he hf hd hE (o7 h6 (by decide) (by decide) (by decide));have et:gO toks a=(a+6+e.w.length+1,some ⟨2,a+2,fC k,eP,some e.x⟩):=by
  unfold gO;rw[bC h0,if_neg (by decide),bC h0,if_pos (by decide)];unfold rX;rw[bC h1,if_pos (by decide),h2,Kt hk,if_pos rfl,bC h3,if_pos (by decide)];have hty:mM toks (a+1+3)=true:=by
   unfold mM;rw[bC h4];rfl
  rw[hty,if_pos rfl,bC h5,if_pos (by decide)];rw[show iT toks (a+1+5)=_ from hx];simp only;rw[bC h6,if_pos (by decide),show tx toks (a+1+3)=⟨([105,110,116]:List UInt8).toArray⟩ from h4];rfl
 rw[cJ,D9 h0 (by simp),if_neg (by simp),et]
def iX:Nat->List Nat->List cL
 | _,[]=>[]
 | a,u::us=>⟨0,a+1,hZ u,bA,none⟩::iX (a+3) us
theorem qX:∀(us:List Nat),(rS us).length=3*us.length
 | []=>rfl
 | u::us=>by simp only[rS,IE,List.length_append,List.length_cons,List.length_nil,qX us];omega
theorem yK:∀(us:List Nat) (f a:Nat) (r:List (List UInt8)),(∀u∈us,u<6)->kF toks a (rS us++r)->
 cJ toks (us.length+f) a=(iX a us++(cJ toks f (a+3*us.length)).1,(cJ toks f (a+3*us.length)).2)
 | [],f,a,r,_,_=>by simp[iX]
 | u::us,f,a,r,h,hw=>by
  rw[rS,List.append_assoc,kF.app] at hw;obtain⟨h1,h2⟩:=hw;rw[show (u::us).length+f=(us.length+f)+1 by simp only[List.length_cons];omega,II (h u (by simp)) h1];rw[yK us f (a+3) r (fun x hx=>h x (List.mem_cons_of_mem _ hx)) h2,show a+3+3*us.length=a+3*(u::us).length by simp only[List.length_cons];omega];rfl
theorem Ft{us:List Nat}{m k:Nat}{e e':PE}(hu:∀u∈us,u<6)(hk:k+1<10)(he:e.ok m)(he':e'.ok m)(hf:e.fu<=1690/\e'.fu<=1690)(hd:e.dep<20/\e'.dep<20) :
 ∃n n',bY (aN ⟨(mK us k e e').toArray⟩)=(iX 0 us ++ [⟨2,n,fC k,eP,some e.x⟩,⟨2,n',fC (k+1),eP,some e'.x⟩],none):=by
 have hw:=Kq ⟨(mK us k e e').toArray⟩;have hl:=congrArg List.length (pX ⟨(mK us k e e').toArray⟩);have ew:words ((⟨(mK us k e e').toArray⟩:ByteArray).data.toList)=yI us k e e':=Mb (fun u x=>by have:=hu u x;omega) hk he he';rw[ew] at hw hl;generalize aN ⟨(mK us k e e').toArray⟩=toks at *;simp only[List.length_map] at hl;have hlen:us.length+3<=(yI us k e e').length:=by
  unfold yI nI;simp only[List.length_append,List.length_cons,List.length_nil,qX];omega
 unfold bY;obtain⟨g,hg⟩:∃g,toks.length=us.length+(g+3):=⟨toks.length-us.length-3,by omega⟩
 rw[hg];have hw0:=hw;unfold yI at hw;rw[yK us (g+3) 0 _ hu hw];rw[kF.app,qX] at hw;obtain⟨_,hw⟩:=hw;rw[kF.app] at hw;obtain⟨h1,hw⟩:=hw;rw[kF.app] at hw;obtain⟨h2,h3,_⟩:=hw;have l1:(nI k e).length=6+e.w.length+1:=by simp only[nI,List.length_append,List.length_cons,List.length_nil];omega
 have l2:(nI (k+1) e').length=6+e'.w.length+1:=by simp only[nI,List.length_append,List.length_cons,List.length_nil];omega
 rw[yJ (by omega) he hf.1 hd.1 h1];rw[l1] at h2 h3;rw[<-Nat.add_assoc,<-Nat.add_assoc] at h2 h3;rw[yJ hk he' hf.2 hd.2 h2];rw[l2] at h3;rw[<-Nat.add_assoc,<-Nat.add_assoc] at h3;rw[cJ,show bB (tx toks (0+3*us.length+6+e.w.length+1+6+e'.w.length+1)) ⟨#[]⟩=true by rw[h3];unfold bB;rw[Lib.toList_data];rfl,if_pos rfl];exact⟨_,_,rfl⟩
end
theorem PE.mono{m m':Nat}(h:m<=m'):∀(e:PE),e.ok m->e.ok m'
 | ⟨.inl _,_⟩,x=>x
 | ⟨.inr (.inl _),_⟩,x=>⟨Nat.lt_of_lt_of_le x.1 h,x.2⟩
 | ⟨.inr (.inr (.inl _)),s'⟩,x=>⟨PE.mono h (s' false) x.1,PE.mono h (s' true) x.2⟩
 | ⟨.inr (.inr (.inr (.inl _))),s'⟩,x=>⟨PE.mono h (s' false) x.1,PE.mono h (s' true) x.2⟩
 | ⟨.inr (.inr (.inr (.inr (.inl _)))),s'⟩,x=>⟨PE.mono h (s' false) x.1,PE.mono h (s' true) x.2⟩
 | ⟨.inr (.inr (.inr (.inr (.inr _)))),s'⟩,x=>⟨PE.mono h (s' false) x.1,PE.mono h (s' true) x.2⟩
def PE.val(V:Nat->Nat):PE->Nat
 | ⟨.inl n,_⟩=>n
 | ⟨.inr (.inl k),_⟩=>V k
 | ⟨.inr (.inr (.inl _)),s'⟩=>(s' false).val V+(s' true).val V
 | ⟨.inr (.inr (.inr (.inl _))),s'⟩=>(s' false).val V*(s' true).val V
 | ⟨.inr (.inr (.inr (.inr (.inl _)))),s'⟩=>if (s' false).val V=(s' true).val V then (s' false).val V else 1
 | ⟨.inr (.inr (.inr (.inr (.inr _)))),s'⟩=>if (s' false).val V=(s' true).val V then 1 else (s' true).val V
def PE.sm(V:Nat->Nat):PE->Prop
 | ⟨.inl _,_⟩=>True
 | ⟨.inr (.inl _),_⟩=>True
 | ⟨.inr (.inr (.inl _)),s'⟩=>(s' false).sm V/\(s' true).sm V/\(s' false).val V+(s' true).val V<=999999999
 | ⟨.inr (.inr (.inr (.inl _))),s'⟩=>(s' false).sm V/\(s' true).sm V/\(s' false).val V*(s' true).val V<=999999999
 | ⟨.inr (.inr (.inr (.inr (.inl _)))),s'⟩=>(s' false).sm V/\(s' true).sm V
 | ⟨.inr (.inr (.inr (.inr (.inr _)))),s'⟩=>(s' false).sm V/\(s' true).sm V
theorem KZ{α:Type}(x y:α):(if True then x else y)=x:=if_pos trivial
theorem PE.typ{M:ByteArray->ByteArray}{m:Nat}:∀(e:PE),e.ok m->(∀k,k<10->uK (fC k) e.x->M (fC k)=eP)->fE M e.x=eP
 | ⟨.inl n,_⟩,_,_=>rfl
 | ⟨.inr (.inl k),_⟩,h,hM=>hM k h.2 rfl
 | ⟨.inr (.inr (.inl _)),s'⟩,h,hM=>by simp only[PE.x,fE,PE.typ (s' false) h.1 fun k hk x=>hM k hk (.inl x),PE.typ (s' true) h.2 fun k hk x=>hM k hk (.inr x),two,three];rw[if_pos (aZ.2 rfl),if_neg (by decide),aZ.2 rfl];rfl
 | ⟨.inr (.inr (.inr (.inl _))),s'⟩,h,hM=>by simp only[PE.x,fE,PE.typ (s' false) h.1 fun k hk x=>hM k hk (.inl x),PE.typ (s' true) h.2 fun k hk x=>hM k hk (.inr x),two,three];rw[if_pos (aZ.2 rfl),if_neg (by decide),aZ.2 rfl];rfl
 | ⟨.inr (.inr (.inr (.inr (.inl _)))),s'⟩,h,hM=>by
  simp only[PE.x,fE,PE.typ (s' false) h.1 fun k hk x=>hM k hk (.inr (.inl x)),PE.typ (s' true) h.2 fun k hk x=>hM k hk (.inl (.inr x)),two,three];rw[if_pos (aZ.2 rfl),KZ,cP (a:=eP) (b:=bA) (by decide),show kW (!false) fS=fS from rfl,aZ.2 rfl,aZ.2 rfl];rfl
 | ⟨.inr (.inr (.inr (.inr (.inr _)))),s'⟩,h,hM=>by
  simp only[PE.x,fE,PE.typ (s' false) h.1 fun k hk x=>hM k hk (.inl (.inl x)),PE.typ (s' true) h.2 fun k hk x=>hM k hk (.inr (.inr x)),two,three];rw[if_pos (aZ.2 rfl),KZ,cP (a:=eP) (b:=bA) (by decide),show kW (!false) fS=fS from rfl,aZ.2 rfl,aZ.2 rfl];rfl
theorem PE.refs{m:Nat}:∀(e:PE),e.ok m->∀n,uK n e.x->∃k,k<m/\k<10/\n=fC k
 | ⟨.inl _,_⟩,_,n,h=>by simp[PE.x,uK,two,three] at h
 | ⟨.inr (.inl k),_⟩,hk,n,h=>by simp only[PE.x,uK,two,three] at h;exact⟨k,hk.1,hk.2,h.symm ▸ rfl⟩
 | ⟨.inr (.inr (.inl _)),s'⟩,h,n,hn=>by simp only[PE.x,uK,two,three] at hn;exact hn.elim (PE.refs (s' false) h.1 n) (PE.refs (s' true) h.2 n)
 | ⟨.inr (.inr (.inr (.inl _))),s'⟩,h,n,hn=>by simp only[PE.x,uK,two,three] at hn;exact hn.elim (PE.refs (s' false) h.1 n) (PE.refs (s' true) h.2 n)
 | ⟨.inr (.inr (.inr (.inr (.inl _)))),s'⟩,h,n,hn=>by
  simp only[PE.x,uK,two,three] at hn;rcases hn with (x|x)|x|x
  . exact PE.refs (s' false) h.1 n x
  . exact PE.refs (s' true) h.2 n x
  . exact PE.refs (s' false) h.1 n x
  . exact absurd x id
 | ⟨.inr (.inr (.inr (.inr (.inr _)))),s'⟩,h,n,hn=>by
  simp only[PE.x,uK,two,three] at hn;rcases hn with (x|x)|x|x
  . exact PE.refs (s' false) h.1 n x
  . exact PE.refs (s' true) h.2 n x
  . exact absurd x id
  . exact PE.refs (s' true) h.2 n x
theorem B0{F:eV}{f:ByteArray}(x:ByteArray):∀(ns:List ByteArray) (M:ByteArray->ByteArray),(x∈ns\/M x=pJ F f x)->qI F f ns M x=pJ F f x
 | [],M,h=>h.elim (fun x=>absurd x (by simp)) id
 | n::ns,M,h=>by
  refine B0 x ns _ ?_;by_cases e:x=n
  . right;simp[e]
  . rcases h with h|h
    . rcases List.mem_cons.1 h with h|h
      . exact absurd h e
      . exact .inl h
    . right;simp[e,h]
structure Made (F:eV) (E:Nat->PE) (V:Nat->Nat):Prop where
 txt:∀i,i<5->F (hZ i)=some ⟨(mK (List.range i) (2*i) (E (2*i)) (E (2*i+1))).toArray⟩
 ok:∀k,k<10->(E k).ok k
 fu:∀k,k<10->(E k).fu<=1690/\(E k).dep<20
 vl:∀k,k<10->V k=(E k).val V/\(E k).sm V/\V k<=1000
theorem De:∀{j k:Nat},j<10->k<10->((fC j).toList==(fC k).toList)=decide (j=k):=by
 have key:(List.range 10).all (fun j=>(List.range 10).all fun k=>((fC j).toList==(fC k).toList)==decide (j=k))=true:=by kernel_rfl
 intro j k hj hk;have:=List.all_eq_true.1 (List.all_eq_true.1 key j (List.mem_range.2 hj)) k (List.mem_range.2 hk)
 exact eq_of_beq this
section
variable {F:eV} {E:Nat->PE} {V:Nat->Nat}
theorem Made.tree(h:Made F E V){i:Nat}(hi:i<5):∃n n',aO F (hZ i)=(iX 0 (List.range i) ++ [⟨2,n,fC (2*i),eP,some (E (2*i)).x⟩,⟨2,n',fC (2*i+1),eP,some (E (2*i+1)).x⟩],none):=by
 have:=Ft (us:=List.range i) (m:=10) (k:=2*i) (e:=E (2*i)) (e':=E (2*i+1)) (fun u hu=>by have:=List.mem_range.1 hu;omega) (by omega) (PE.mono (by omega) _ (h.ok _ (by omega))) (PE.mono (by omega) _ (h.ok _ (by omega)))
  ⟨(h.fu _ (by omega)).1,(h.fu _ (by omega)).1⟩ ⟨(h.fu _ (by omega)).2,(h.fu _ (by omega)).2⟩
 unfold aO dP;rw[h.txt i hi];exact this
theorem vX(nm:ByteArray):∀(us:List Nat) (a:Nat) (r:List cL),aU nm (iX a us++r)=aU nm r
 | [],_,_=>rfl
 | u::us,a,r=>by
  have:=vX nm us (a+3) r
  unfold aU at this ⊢;simp only[iX,List.cons_append];rw[List.filter_cons_of_neg (by simp[Jn]),this]
theorem Made.named(h:Made F E V){i k:Nat}(hi:i<5)(hk:k<10):∃n,aU (fC k) (aO F (hZ i)).1=if k / 2=i then [⟨2,n,fC k,eP,some (E k).x⟩] else []:=by
 obtain⟨n,n',ht⟩:=h.tree hi;rw[ht,vX];have e1:=De (j:=2*i) (k:=k) (by omega) hk;have e2:=De (j:=2*i+1) (k:=k) (by omega) hk;unfold aU Jn;simp only[List.filter_cons,List.filter_nil,e1,e2];by_cases c:k / 2=i
 . rcases (show 2*i=k\/2*i+1=k by omega) with c1|c1
   . subst c1
     exact⟨n,by simp[c]⟩
   . subst c1
     exact⟨n',by simp[c]⟩
 . exact⟨0,by simp[c,show ¬2*i=k by omega,show ¬2*i+1=k by omega]⟩
theorem yL:∀(us:List Nat) (a:Nat) (r:List cL),mP (iX a us++r)=mP r
 | [],_,_=>rfl
 | u::us,a,r=>by
  have:=yL us (a+3) r
  unfold mP at this ⊢;simp only[iX,List.cons_append];rw[List.filter_cons_of_neg (by simp),this]
theorem NA:∀i<5,(decide (vV (2*i)<=vV (2*i+1)))=true/\Lib.compact [vV (2*i),vV (2*i+1)] = [vV (2*i),vV (2*i+1)]:=by decide
theorem Made.exp(h:Made F E V){i:Nat}(hi:i<5):uU F (hZ i) = [fC (2*i),fC (2*i+1)]:=by
 obtain⟨n,n',ht⟩:=h.tree hi;unfold uU iQ;rw[ht,yL];have hp:mP [⟨2,n,fC (2*i),eP,some (E (2*i)).x⟩,⟨2,n',fC (2*i+1),eP,some (E (2*i+1)).x⟩] = [vV (2*i),vV (2*i+1)]:=rfl;obtain⟨h1,h2⟩:=NA i hi;rw[hp,List.mergeSort_of_pairwise (by simpa using h1),h2];rfl
theorem vY:∀(us:List Nat) (a:Nat) (r:List cL) (acc:List ByteArray),(∀i∈r,i.kind≠0)->(us.map hZ).Nodup->(∀u∈us,hZ u∉acc)->bS (iX a us++r) acc=acc++us.map hZ
 | [],a,[],acc,_,_,_=>by simp[iX,bS]
 | [],a,i::r,acc,h,hn,hm=>by
  simp only[iX,List.nil_append,bS];have:(i.kind==0)=false:=by simpa using h i (by simp)
  rw[this];exact vY [] a r acc (fun x hx=>h x (List.mem_cons_of_mem _ hx)) hn hm
 | u::us,a,r,acc,h,hn,hm=>by
  have h1:gL acc (hZ u)=false:=by
   cases hb:gL acc (hZ u) with
   | false=>rfl
   | true=>exact absurd (lB.1 hb) (hm u (by simp))
  simp only[iX,List.cons_append,bS,h1];rw[List.map_cons,List.nodup_cons] at hn;show bS (iX (a+3) us++r) (acc ++ [hZ u])=_;rw[vY us (a+3) r (acc ++ [hZ u]) h hn.2 fun x hx hy=>?_]
  . simp
  . rcases List.mem_append.1 hy with hy|hy
    . exact hm x (List.mem_cons_of_mem _ hx) hy
    . rw[List.mem_singleton] at hy
      exact hn.1 (hy ▸ List.mem_map.2 ⟨x,hx,rfl⟩)
theorem IJ:∀i<6,((List.range i).map hZ).Nodup:=by decide
theorem Made.uses(h:Made F E V){i:Nat}(hi:i<5):bS (aO F (hZ i)).1 []=(List.range i).map hZ:=by
 obtain⟨n,n',ht⟩:=h.tree hi;rw[ht];have:=vY (List.range i) 0 [⟨2,n,fC (2*i),eP,some (E (2*i)).x⟩,⟨2,n',fC (2*i+1),eP,some (E (2*i+1)).x⟩] [] (fun x hx=>by
  simp only[List.mem_cons,List.not_mem_nil,or_false] at hx;rcases hx with rfl|rfl <;> simp) (IJ i (by omega)) (fun _ _=>by simp)
 simpa using this
theorem An{j k:Nat}(hj:j<10)(hk:k<10)(h:fC j=fC k):j=k:=by
 have:=De hj hk
 rw[h] at this;simpa using this.symm
theorem Made.used(h:Made F E V){k:Nat}(hk:k<10):∀(us:List Nat) (found:ByteArray),(∀u∈us,u<5)->us.Nodup->((k / 2∈us/\found=none_)->kJ F (fC k) (us.map hZ) found=hZ (k / 2))/\(k / 2∉us->kJ F (fC k) (us.map hZ) found=found)
 | [],found,_,_=>⟨fun x=>absurd x.1 (by simp),fun _=>rfl⟩
 | u::us,found,hu,hn=>by
  rw[List.nodup_cons] at hn;have hu0:=hu u (by simp);have hx:=h.exp hu0;simp only[List.map_cons,kJ];rw[hx];have hm:gL [fC (2*u),fC (2*u+1)] (fC k)=decide (k / 2=u):=by
   by_cases c:k / 2=u
   . rw[decide_eq_true c,lB]
     rcases (show k=2*u\/k=2*u+1 by omega) with e|e <;> rw[e] <;> simp
   . rw[decide_eq_false c]
     cases hb:gL [fC (2*u),fC (2*u+1)] (fC k) with
     | false=>rfl
     | true=>
      have:=lB.1 hb
      simp only[List.mem_cons,List.not_mem_nil,or_false] at this;rcases this with e|e
      . have:=An hk (by omega) e;omega
      . have:=An hk (by omega) e;omega
  rw[hm];have ih:=fun found=>Made.used h hk us found (fun x hx=>hu x (List.mem_cons_of_mem _ hx)) hn.2;by_cases c:k / 2=u
  . rw[decide_eq_true c]
    refine⟨fun hf=>?_,fun hf=>absurd (by rw[c];simp) hf⟩;rw[hf.2,aZ.2 rfl,if_pos rfl,if_pos rfl,(ih _).2 (by rw[c];exact hn.1),c]
  . rw[decide_eq_false c]
    refine⟨fun hf=>?_,fun hf=>?_⟩
    . simp only[Bool.false_eq_true,if_false]
      refine (ih _).1 ⟨?_,hf.2⟩;rcases List.mem_cons.1 hf.1 with e|e
      . exact absurd e c
      . exact e
    . simp only[Bool.false_eq_true,if_false]
      exact (ih _).2 fun x=>hf (List.mem_cons_of_mem _ x)
theorem Made.find(h:Made F E V){i k:Nat}(hi:i<5)(hk:k / 2<=i):findF F (hZ i) (fC k)=hZ (k / 2):=by
 obtain⟨n,hn⟩:=h.named hi (k:=k) (by omega);unfold findF;rw[hn];by_cases c:k / 2=i
 . rw[if_pos c]
   show hZ i=_;rw[c]
 . rw[if_neg c]
   show kJ F (fC k) (bS (aO F (hZ i)).1 []) none_=_;rw[h.uses hi];exact (Made.used h (by omega) (List.range i) none_ (fun u hu=>by have:=List.mem_range.1 hu;omega) List.nodup_range).1 ⟨List.mem_range.2 (by omega),rfl⟩
theorem Ku:∀i<5,eM (hZ i)=true:=by
 have:(List.range 5).all (fun i=>eM (hZ i))=true:=by kernel_rfl
 intro i hi;exact List.all_eq_true.1 this i (List.mem_range.2 hi)
theorem Made.said(h:Made F E V){i k:Nat}(hi:i<5)(hk:k / 2<=i):pJ F (hZ i) (fC k)=eP:=by
 obtain⟨n,hn⟩:=h.named (i:=k / 2) (by omega) (k:=k) (by omega);unfold pJ;rw[h.find hi hk,if_pos (Ku _ (by omega)),hn,if_pos rfl]
theorem Made.type(h:Made F E V){k:Nat}(hk:k<10):bK F (hZ (k / 2)) (fC k)=eP:=by
 obtain⟨n,hn⟩:=h.named (i:=k / 2) (by omega) hk;unfold bK;rw[hn,if_pos rfl];simp only;rw[PE.typ (m:=k) (E k) (h.ok k hk) fun j hj10 hj=>?_,aZ.2 rfl,if_pos rfl];rw[B0 _ _ _ (.inl ((fV _ _ _).2 (.inr hj)))];obtain⟨j',h1,h2,h3⟩:=PE.refs (E k) (h.ok k hk) _ hj;have:=An hj10 h2 h3
 exact h.said (by omega) (by omega)
theorem IK:(bB eP none_||bB eP eX)=false:=by rw[cP (by decide),cP (by decide)];rfl
theorem Made.expr(h:Made F E V){k:Nat}(hk:k<10):dD F (hZ (k / 2)) (fC k)=some (E k).x:=by
 obtain⟨n,hn⟩:=h.named (i:=k / 2) (by omega) hk;unfold dD;rw[h.type hk,IK,hn,if_pos rfl];rfl
theorem yM{i:cL}:∀(us:List Nat) (a:Nat),i∈iX a us->i.kind=0/\∃u∈us,i.name=hZ u
 | [],_,h=>by simp[iX] at h
 | u::us,a,h=>by
  rcases List.mem_cons.1 h with rfl|h
  . exact⟨rfl,u,by simp,rfl⟩
  . obtain⟨h1,x,h2,h3⟩:=yM us (a+3) h
    exact⟨h1,x,List.mem_cons_of_mem _ h2,h3⟩
end
def kN(c:Int)(n:Nat):Nat:=((if c<0 then -(c+1) else c) % (n:Int)).toNat
theorem vZ(c:Int){n:Nat}(h:0<n):kN c n<n:=by
 unfold kN;have h1:=Int.emod_nonneg (if c<0 then -(c+1) else c) (show (n:Int)≠0 by omega);have h2:=Int.emod_lt_of_pos (if c<0 then -(c+1) else c) (show (0:Int)<n by omega);omega
def bE(l:List Int)(i n:Nat):Nat×Nat:=match l[i]? with
 | some c=>(kN c n,i+1)
 | none=>(0,i)
theorem jE(l:List Int)(i:Nat){n:Nat}(h:0<n):(bE l i n).1<n:=by
 unfold bE;split
 . exact vZ _ h
 . exact h
def gJ(vs:List Nat)(k:Nat):Nat:=vs.getD k 0
def fN(l:List Int)(vs:List Nat)(way i:Nat):PE×Nat:=
 if way=0\/vs.length=0 then (.num (bE l i 7).1,(bE l i 7).2) else (.ref (bE l i vs.length).1,(bE l i vs.length).2)
def iN(vs:List Nat)(way:Nat)(a b:PE):PE:=
 if way=2 then .add a b else if way=3 then .mul a b else if way=4 then (if a.val (gJ vs)=b.val (gJ vs) then .iteA a b else .iteB a b) else a
def cZ(l:List Int)(vs:List Nat):Nat->Nat->PE×Nat
 | 0,i=>fN l vs ((bE l i 6).1 % 2) (bE l i 6).2
 | d+1,i=>if (bE l i 6).1<2 then fN l vs (bE l i 6).1 (bE l i 6).2 else
  (iN vs (bE l i 6).1 (cZ l vs d (bE l i 6).2).1 (cZ l vs d (cZ l vs d (bE l i 6).2).2).1,(cZ l vs d (cZ l vs d (bE l i 6).2).2).2)
theorem lK(l:List Int){vs:List Nat}(hv:vs.length<=10)(way i:Nat):(fN l vs way i).1.ok vs.length/\(fN l vs way i).1.sm (gJ vs)/\(fN l vs way i).1.fu=4/\(fN l vs way i).1.dep=0/\(fN l vs way i).1.t.length<=2:=by
 unfold fN;split
 . refine⟨?_,trivial,rfl,rfl,by simp[PE.t,Jd,two,three]⟩
   have:=jE l i (n:=7) (by decide)
   show (bE l i 7).1<10;omega
 . rename_i h
   have:=jE l i (n:=vs.length) (by omega)
   exact⟨⟨this,by omega⟩,trivial,rfl,rfl,by simp[PE.t,vV,two,three]⟩
theorem qY(l:List Int){vs:List Nat}(hs:∀x∈vs,x<=1000)(way i:Nat):(fN l vs way i).1.val (gJ vs)<=1000:=by
 unfold fN;split
 . have:=jE l i (n:=7) (by decide)
   show (bE l i 7).1<=1000;omega
 . show gJ vs _<=1000
   unfold gJ;rw[List.getD_eq_getElem?_getD];cases hx:vs[(bE l i vs.length).1]? with
   | none=>simp
   | some x=>exact hs x (List.mem_of_getElem? hx)
structure L1 (vs:List Nat) (e:PE) (f d b:Nat):Prop where
 ok:e.ok vs.length
 fu:e.fu<=f
 dep:e.dep<=d
 len:e.t.length<=b
theorem B1{vs:List Nat}{a b:PE}{f d n:Nat}(h1:L1 vs a f d n)(h2:L1 vs b f d n)(way:Nat):L1 vs (iN vs way a b) (2*f+10) (2*d+1) (3*n+24):=by
 obtain⟨a1,a2,a3,a4⟩:=h1;obtain⟨b1,b2,b3,b4⟩:=h2;unfold iN;split
 . refine⟨⟨a1,b1⟩,?_,?_,?_⟩ <;> simp only[PE.fu,PE.dep,PE.t,List.length_append,List.length_cons,List.length_nil,two,three] <;> omega
 . split
   . refine⟨⟨a1,b1⟩,?_,?_,?_⟩ <;> simp only[PE.fu,PE.dep,PE.t,List.length_append,List.length_cons,List.length_nil,two,three] <;> omega
   . split
     . split
       . refine⟨⟨a1,b1⟩,?_,?_,?_⟩ <;> simp only[PE.fu,PE.dep,PE.t,List.length_append,List.length_cons,List.length_nil,two,three] <;> omega
       . refine⟨⟨a1,b1⟩,?_,?_,?_⟩ <;> simp only[PE.fu,PE.dep,PE.t,List.length_append,List.length_cons,List.length_nil,two,three] <;> omega
     . exact⟨a1,by omega,by omega,by omega⟩
theorem Df(l:List Int){vs:List Nat}(hv:vs.length<=10)(i:Nat):L1 vs (cZ l vs 0 i).1 4 0 2:=by
 obtain⟨h1,_,h2,h3,h4⟩:=lK l hv ((bE l i 6).1 % 2) (bE l i 6).2;exact⟨h1,Nat.le_of_eq h2,Nat.le_of_eq h3,h4⟩
theorem Dg(l:List Int){vs:List Nat}(hv:vs.length<=10)(i:Nat):L1 vs (cZ l vs 1 i).1 18 1 30:=by
 unfold cZ;split
 . obtain⟨h1,_,h2,h3,h4⟩:=lK l hv (bE l i 6).1 (bE l i 6).2
   exact⟨h1,by omega,by omega,by omega⟩
 . exact B1 (Df l hv _) (Df l hv _) _
theorem IL(l:List Int){vs:List Nat}(hv:vs.length<=10)(i:Nat):L1 vs (cZ l vs 2 i).1 46 3 114:=by
 unfold cZ;split
 . obtain⟨h1,_,h2,h3,h4⟩:=lK l hv (bE l i 6).1 (bE l i 6).2
   exact⟨h1,by omega,by omega,by omega⟩
 . exact B1 (Dg l hv _) (Dg l hv _) _
structure Vl (vs:List Nat) (e:PE) (b:Nat):Prop where
 sm:e.sm (gJ vs)
 val:e.val (gJ vs)<=b
theorem IM(l:List Int){vs:List Nat}(hv:vs.length<=10)(hs:∀x∈vs,x<=1000)(i:Nat):Vl vs (cZ l vs 0 i).1 1000:=
 ⟨(lK l hv _ _).2.1,qY l hs _ _⟩
theorem Fu{vs:List Nat}{a b:PE}{n:Nat}(hn:1<=n)(h1:Vl vs a n)(h2:Vl vs b n)(hb:2*n<=999999999/\n*n<=999999999)(way:Nat):Vl vs (iN vs way a b) (max (2*n) (n*n)):=by
 obtain⟨a1,a2⟩:=h1;obtain⟨b1,b2⟩:=h2;have hm:=Nat.mul_le_mul a2 b2;have m1:=Nat.le_max_left (2*n) (n*n);have m2:=Nat.le_max_right (2*n) (n*n);unfold iN;split
 . exact⟨⟨a1,b1,by show a.val (gJ vs)+b.val (gJ vs)<=999999999;omega⟩,by simp only[PE.val,two,three];omega⟩
 . split
   . exact⟨⟨a1,b1,by show a.val (gJ vs)*b.val (gJ vs)<=999999999;omega⟩,by simp only[PE.val,two,three];omega⟩
   . split
     . split
       . refine⟨⟨a1,b1⟩,?_⟩
         show (if a.val (gJ vs)=b.val (gJ vs) then a.val (gJ vs) else 1)<=_;split <;> omega
       . refine⟨⟨a1,b1⟩,?_⟩
         show (if a.val (gJ vs)=b.val (gJ vs) then 1 else b.val (gJ vs))<=_;split <;> omega
     . exact⟨a1,by omega⟩
theorem IP(l:List Int){vs:List Nat}(hv:vs.length<=10)(hs:∀x∈vs,x<=1000)(i:Nat):Vl vs (cZ l vs 1 i).1 1000000:=by
 unfold cZ;split
 . exact⟨(lK l hv _ _).2.1,by have:=qY l hs (bE l i 6).1 (bE l i 6).2;exact Nat.le_trans this (by decide)⟩
 . exact Fu (n:=1000) (by decide) (IM l hv hs _) (IM l hv hs _) (by decide) _
theorem K0(l:List Int){vs:List Nat}(hv:vs.length<=10)(hs:∀x∈vs,x<=1000)(i:Nat):(cZ l vs 2 i).1.val (gJ vs)<=1000000000000/\((cZ l vs 2 i).1.val (gJ vs)<=1000->(cZ l vs 2 i).1.sm (gJ vs)):=by
 unfold cZ;split
 . obtain⟨h1,h2,_⟩:=lK l hv (bE l i 6).1 (bE l i 6).2
   exact⟨by have:=qY l hs (bE l i 6).1 (bE l i 6).2;exact Nat.le_trans this (by decide),fun _=>h2⟩
 . have va:=IP l hv hs (bE l i 6).2
   have vb:=IP l hv hs (cZ l vs 1 (bE l i 6).2).2;simp only;generalize (cZ l vs 1 (bE l i 6).2).1=a at *;generalize (cZ l vs 1 (cZ l vs 1 (bE l i 6).2).2).1=b at *;obtain⟨a1,a2⟩:=va;obtain⟨b1,b2⟩:=vb;have hm:=Nat.mul_le_mul a2 b2;unfold iN;split
   . exact⟨by simp only[PE.val,two,three];omega,fun _=>⟨a1,b1,by show a.val (gJ vs)+b.val (gJ vs)<=999999999;omega⟩⟩
   . split
     . exact⟨by simp only[PE.val,two,three];omega,fun h=>⟨a1,b1,by show a.val (gJ vs)*b.val (gJ vs)<=999999999;have h2:a.val (gJ vs)*b.val (gJ vs)<=1000:=h;omega⟩⟩
     . split
       . split
         . refine⟨?_,fun _=>⟨a1,b1⟩⟩
           show (if a.val (gJ vs)=b.val (gJ vs) then a.val (gJ vs) else 1)<=_;split <;> omega
         . refine⟨?_,fun _=>⟨a1,b1⟩⟩
           show (if a.val (gJ vs)=b.val (gJ vs) then 1 else b.val (gJ vs))<=_;split <;> omega
       . exact⟨by omega,fun _=>a1⟩
end Go.Proofs.YthibodlojlkppaaGreatDoor
namespace Go.Proofs.YthibodlojlkppaaGreatDoor
variable [DecidableEq K] [LawfulBEq Lk]
section
variable {V:Type} {wp:K->Prog V} {lp:V} {F:eV} {a:K->V} {G:K->Prop} {r:K->Nat}
structure Jv (F:eV) (a:K->V) (st:St V):Prop where
 files:st.files=F
 val:∀k m x,st.sl k=some m->m.val=some x->x=a k
 kp:∀k,k∈st.kept↔∃m x,st.sl k=some m/\m.val=some x
 v0:∀k m,st.sl k=some m->m.ver=none->m.val=none
theorem Jv.of{st:St V}(h:Inv F a st):Jv F a st:=⟨h.files,fun k m x hk hx=>(h.mem k m hk).v2 x hx,h.kp,fun k m hk hv=>(h.mem k m hk).v0 hv⟩
structure yN (G:K->Prop) (st st':St V) (l:List K):Prop where
 beg:st'.began=st.began++l
 nd:l.Nodup
 new:∀x∈l,x∉st.kept/\x∈st'.kept
 mono:∀x∈st.kept,x∈st'.kept
 act:∀x,actB st' x=actB st x
 ina:∀x∈l,actB st x=false
 good:∀x∈l,G x
theorem yN.refl(st:St V):yN G st st []:=⟨by simp,List.nodup_nil,fun x h=>by simp at h,fun _ h=>h,fun _=>rfl,fun x h=>by simp at h,fun x h=>by simp at h⟩
theorem yN.same{st st':St V}(hb:st'.began=st.began)(hk:st'.kept=st.kept)(ha:∀x,actB st' x=actB st x):yN G st st' []:=⟨by simp[hb],List.nodup_nil,fun x h=>by simp at h,fun x h=>by rw[hk];exact h,ha,fun x h=>by simp at h,fun x h=>by simp at h⟩
theorem yN.trans{st st1 st2:St V}{l l':List K}(h:yN G st st1 l)(g:yN G st1 st2 l'):yN G st st2 (l++l'):=by
 refine⟨by rw[g.beg,h.beg,List.append_assoc],List.nodup_append.2 ⟨h.nd,g.nd,fun x hx y hy e=>(g.new y hy).1 (e ▸ (h.new x hx).2)⟩,fun x hx=>?_,fun x hx=>g.mono x (h.mono x hx),fun x=>(g.act x).trans (h.act x),fun x hx=>?_,fun x hx=>?_⟩
 . rcases List.mem_append.1 hx with hx|hx
   . exact⟨(h.new x hx).1,g.mono x (h.new x hx).2⟩
   . exact⟨fun e=>(g.new x hx).1 (h.mono x e),(g.new x hx).2⟩
 . rcases List.mem_append.1 hx with hx|hx
   . exact h.ina x hx
   . rw[<-h.act x];exact g.ina x hx
 . rcases List.mem_append.1 hx with hx|hx
   . exact h.good x hx
   . exact g.good x hx
theorem iA{st:St V}{k j:K}{m:bU V}:actB (st.put k m) j=if j=k then m.act else actB st j:=by
 unfold actB St.put;by_cases h:j=k
 . simp[h]
 . simp[h]
theorem Jv.find{st:St V}(h:Jv F a st)(k:K):Jv F a (st.find k)/\yN G st (st.find k) []:=by
 unfold St.find;cases hk:st.sl k with
 | some m=>exact⟨h,yN.refl _⟩
 | none=>
  refine⟨⟨h.files,fun j m x hj hx=>?_,fun j=>?_,fun j m hj hv=>?_⟩,yN.same rfl rfl fun x=>?_⟩
  . simp only[St.put] at hj
    split at hj
    . cases hj;simp[p7] at hx
    . exact h.val j m x hj hx
  . show j∈st.kept↔_
    rw[h.kp j];simp only[St.put];by_cases hj:j=k
    . subst hj
      constructor
      . rintro⟨m,x,e,_⟩;rw[hk] at e;cases e
      . rintro⟨m,x,e,e2⟩;rw[if_pos rfl] at e;cases e;simp[p7] at e2
    . rw[if_neg hj]
  . simp only[St.put] at hj
    split at hj
    . cases hj;rfl
    . exact h.v0 j m hj hv
  . rw[iA]
    split
    . rename_i e;subst e;unfold actB;rw[hk];rfl
    . rfl
theorem Jv.source{st:St V}(h:Jv F a st)(f:ByteArray):Jv F a (st.source f)/\yN G st (st.source f) []:=by
 unfold St.source;split
 . exact⟨h,yN.refl _⟩
 . exact⟨⟨h.files,h.val,h.kp,h.v0⟩,yN.same rfl rfl fun _=>rfl⟩
theorem IQ{st:St V}(h:Jv F a st){k:K}{v:V}(hv:st.val k=some v):v=a k:=by
 unfold St.val at hv;cases hk:st.sl k with
 | none=>rw[hk] at hv;cases hv
 | some m=>rw[hk] at hv;exact h.val k m v hk hv
def EF(F:eV)(a:K->V)(G:K->Prop)(r:K->Nat)(E:eF V):Prop:=∀k st out st',Jv F a st->G k->(∀c,actB st c=true->r k<r c)->E k st=some (out,st')->out = .ok ()/\Jv F a st'/\(∃l,yN G st st' l)/\k∈st'.kept
theorem Ao{E:eF V}(hE:EF F a G r E){nc:Bool}{k:K}{lk:List Lk}{st st':St V}{out:Out (V×List Lk)}(hj:Jv F a st)(hg:G k)(hr:∀c,actB st c=true->r k<r c)(h:cE E nc k lk st=some (out,st')):∃lk',out = .ok (a k,lk')/\Jv F a st'/\∃l,yN G st st' l:=by
 obtain⟨f1,f2⟩:=hj.find (G:=G) k;unfold cE at h;split at h
 . cases h
 split at h
 . obtain⟨v,hv,e⟩:=Option.map_eq_some_iff.1 h
   cases e;exact⟨lk,by rw[IQ f1 hv],f1,_,f2⟩
 . split at h
   . rename_i st2 he
     obtain⟨_,j2,⟨l,hl⟩,_⟩:=hE _ _ _ _ f1 hg (fun c hc=>hr c (by rw[<-f2.act];exact hc)) he;split at h
     . obtain⟨v,hv,e⟩:=Option.map_eq_some_iff.1 h
       cases e;exact⟨_,by rw[IQ j2 hv],j2,_,f2.trans hl⟩
     . cases h
   . rename_i c st2 he
     obtain⟨e,_⟩:=hE _ _ _ _ f1 hg (fun c hc=>hr c (by rw[<-f2.act];exact hc)) he;cases e
   . cases h
theorem Dh{E:eF V}(hE:EF F a G r E){nc:Bool}:∀(p:Prog V) (lk:List Lk) (st:St V) (out:Out (V×List Lk)) (st':St V),Jv F a st->(∀j,Lk.slot j∈qs F a p->G j/\∀c,actB st c=true->r j<r c)->run E nc p lk st=some (out,st')->∃v lk',out = .ok (v,lk')/\bV F a p=some v/\Jv F a st'/\∃l,yN G st st' l
 | ⟨.inl v,_⟩,lk,st,out,st',hj,_,h=>by cases h;exact⟨v,lk,rfl,rfl,hj,[],yN.refl _⟩
 | ⟨.inr (.inl _),_⟩,lk,st,out,st',_,_,h=>by cases h
 | ⟨.inr (.inr (.inl f)),c⟩,lk,st,out,st',hj,hr,h=>by
  simp only[run] at h;split at h
  . obtain⟨f1,f2⟩:=hj.source (G:=G) f
    rw[hj.files] at h;obtain⟨v,lk',e1,e2,e3,l,e4⟩:=Dh hE (c (F f)) _ _ _ _ f1 (fun j hjq=>⟨(hr j (List.mem_cons_of_mem _ hjq)).1,fun x hx=>(hr j (List.mem_cons_of_mem _ hjq)).2 x (by rw[<-f2.act];exact hx)⟩) h;exact⟨v,lk',e1,e2,e3,_,f2.trans e4⟩
  . cases h
 | ⟨.inr (.inr (.inr k)),c⟩,lk,st,out,st',hj,hr,h=>by
  simp only[run] at h;have h0:=hr k (List.mem_cons_self ..);split at h
  . rename_i v lk1 st1 he
    obtain⟨lk2,e1,j1,l1,f1⟩:=Ao hE hj h0.1 h0.2 he;cases e1;obtain⟨v,lk',e1,e2,e3,l,e4⟩:=Dh hE (c (a k)) _ _ _ _ j1 (fun j hjq=>⟨(hr j (List.mem_cons_of_mem _ hjq)).1,fun x hx=>(hr j (List.mem_cons_of_mem _ hjq)).2 x (by rw[<-f1.act];exact hx)⟩) h;exact⟨v,lk',e1,e2,e3,_,f1.trans e4⟩
  . rename_i c' st1 he
    obtain⟨lk2,e1,_⟩:=Ao hE hj h0.1 h0.2 he;cases e1
  . cases h
theorem Di{E:eF V}(hE:EF F a G r E)(wT:∀k,bV F a (wp k)=some (a k))(hrk:∀k j,G k->Lk.slot j∈qs F a (wp k)->G j/\r j<r k){k:K}{st st':St V}{out:Out Unit}(hj:Jv F a st)(hg:G k)(hr:∀c,actB st c=true->c=k\/r k<r c)(hk:actB st k=true)(hd:k∉st.kept)(h:workOut wp E k st=some (out,st')) :
 out = .ok ()/\Jv F a st'/\k∈st'.kept/\∃l,st'.began=st.began++k::l/\(k::l).Nodup/\(∀x∈l,x∉st.kept/\x∈st'.kept/\actB st x=false/\G x)/\(∀x∈st.kept,x∈st'.kept)/\∀x,actB st' x=actB st x:=by
 unfold workOut at h;split at h
 . have hj1:Jv F a {st with began:=st.began ++ [k]}:=⟨hj.files,hj.val,hj.kp,hj.v0⟩
   cases hrun:run E (k.kind != 7) (wp k) [] {st with began:=st.began ++ [k]} with
   | none=>rw[hrun] at h;cases h
   | some q=>
    obtain⟨o,st2⟩:=q;rw[hrun] at h;obtain⟨v,lk',rfl,e2,j2,l,f2⟩:=Dh hE (wp k) [] _ _ _ hj1 (fun j hjq=>⟨(hrk k j hg hjq).1,fun c hc=>by
     have h1:=(hrk k j hg hjq).2;rcases hr c hc with e|e
     . rw[e];exact h1
     . omega⟩) hrun
    rw[wT k] at e2;cases e2;simp only at h;obtain⟨s,hs,e⟩:=Option.map_eq_some_iff.1 h;cases e;unfold answer at hs;cases hm:st2.sl k with
    | none=>rw[hm] at hs;cases hs
    | some m=>
     rw[hm] at hs;simp only at hs;split at hs
     . rename_i hb
       cases hs;have he:(st2.put k (gK st2 m (a k))).use k={(st2.put k (gK st2 m (a k))).put k {gK st2 m (a k) with used:=(st2.uses+1) % j9} with uses:=(st2.uses+1) % j9,kept:=st2.kept ++ [k]}:=by
        have h1:(st2.put k (gK st2 m (a k))).sl k=some (gK st2 m (a k)):=by simp[St.put]
        unfold St.use;rw[h1];have h2:k∉(st2.put k (gK st2 m (a k))).kept:=hb.2;simp only[if_neg h2];rfl
       have hsl:∀j,((st2.put k (gK st2 m (a k))).use k).sl j=if j=k then some {gK st2 m (a k) with used:=(st2.uses+1) % j9} else st2.sl j:=fun j=>by
        rw[he];simp only[St.put];split <;> rfl
       have hkp:((st2.put k (gK st2 m (a k))).use k).kept=st2.kept ++ [k]:=by rw[he]
       have hbg:((st2.put k (gK st2 m (a k))).use k).began=st2.began:=by rw[he];rfl
       have hfl:((st2.put k (gK st2 m (a k))).use k).files=st2.files:=by rw[he];rfl
       have hac:∀x,actB ((st2.put k (gK st2 m (a k))).use k) x=actB st2 x:=fun x=>by
        unfold actB;rw[hsl];by_cases hx:x=k
        . rw[if_pos hx,hx,hm];rfl
        . rw[if_neg hx]
       refine⟨rfl,⟨hfl.trans j2.files,fun j n x hjn hx=>?_,fun j=>?_,fun j n hjn hv=>?_⟩,by rw[hkp];simp,l,?_,?_,fun x hx=>?_,fun x hx=>?_,fun x=>?_⟩
       . rw[hsl] at hjn
         split at hjn
         . rename_i e;cases hjn;cases hx;rw[e]
         . exact j2.val j n x hjn hx
       . rw[hkp,hsl,List.mem_append,List.mem_singleton]
         by_cases hjk:j=k
         . rw[if_pos hjk]
           exact⟨fun _=>⟨_,_,rfl,rfl⟩,fun _=>.inr hjk⟩
         . rw[if_neg hjk,<-j2.kp j]
           exact⟨fun x=>x.elim id fun e=>absurd e hjk,.inl⟩
       . rw[hsl] at hjn
         split at hjn
         . cases hjn;cases hv
         . exact j2.v0 j n hjn hv
       . rw[hbg,f2.beg];simp
       . rw[List.nodup_cons]
         refine⟨fun hx=>?_,f2.nd⟩;have h1:actB st k=false:=f2.ina k hx;rw[hk] at h1;cases h1
       . have h1:=f2.new x hx
         exact⟨h1.1,by rw[hkp];exact List.mem_append_left _ h1.2,f2.ina x hx,f2.good x hx⟩
       . rw[hkp];exact List.mem_append_left _ (f2.mono x hx)
       . exact (hac x).trans (f2.act x)
     . cases hs
 . cases h
theorem Fv{E:eF V}(hE:EF F a G r E)(wT:∀k,bV F a (wp k)=some (a k))(hrk:∀k j,G k->Lk.slot j∈qs F a (wp k)->G j/\r j<r k):EF F a G r (dK wp lp E):=by
 intro k st out st' hj hg hr h;unfold dK at h;cases hm:st.sl k with
 | none=>rw[hm] at h;cases h
 | some m=>
  rw[hm] at h;simp only at h;have hact:m.act=false:=by
   cases ha:m.act with
   | false=>rfl
   | true=>
    have:actB st k=true:=by unfold actB;rw[hm];exact ha
    have:=hr k this
    omega
  rw[hact,if_neg (by simp)] at h;have hb0:actB st k=false:=by unfold actB;rw[hm];exact hact
  have hsl1:∀j,(st.put k {m with act:=true}).sl j=if j=k then some {m with act:=true} else st.sl j:=fun j=>rfl;have hj1:Jv F a (st.put k {m with act:=true}):=by
   refine⟨hj.files,fun j n x hjn hx=>?_,fun j=>?_,fun j n hjn hv=>?_⟩
   . rw[hsl1] at hjn
     split at hjn
     . rename_i e;cases hjn;subst e;exact hj.val _ m x hm hx
     . exact hj.val j n x hjn hx
   . show j∈st.kept↔_
     rw[hj.kp j,hsl1];by_cases hjk:j=k
     . subst hjk
       rw[if_pos rfl];constructor
       . rintro⟨n,x,e,e2⟩;rw[hm] at e;cases e;exact⟨_,x,rfl,e2⟩
       . rintro⟨n,x,e,e2⟩;cases e;exact⟨m,x,hm,e2⟩
     . rw[if_neg hjk]
   . rw[hsl1] at hjn
     split at hjn
     . rename_i e;cases hjn;subst e;exact hj.v0 _ m hm hv
     . exact hj.v0 j n hjn hv
  have hk1:actB (st.put k {m with act:=true}) k=true:=by rw[iA,if_pos rfl]
  have hr1:∀c,actB (st.put k {m with act:=true}) c=true->c=k\/r k<r c:=fun c hc=>by
   rw[iA] at hc;by_cases hck:c=k
   . exact .inl hck
   . rw[if_neg hck] at hc;exact .inr (hr c hc)
  have hleave:∀st2:St V,Jv F a st2->(∀x,actB st2 x=actB (st.put k {m with act:=true}) x)->k∈st2.kept->Jv F a (st2.leave k)/\(st2.leave k).kept=st2.kept/\(st2.leave k).began=st2.began/\∀x,actB (st2.leave k) x=actB st x:=by
   intro st2 j2 ha2 _;unfold St.leave;cases hm2:st2.sl k with
   | none=>
    have:=ha2 k
    rw[hk1] at this;unfold actB at this;rw[hm2] at this;cases this
   | some m2=>
    have hsl2:∀j,(st2.put k {m2 with act:=false}).sl j=if j=k then some {m2 with act:=false} else st2.sl j:=fun j=>rfl;refine⟨⟨j2.files,fun j n x hjn hx=>?_,fun j=>?_,fun j n hjn hv=>?_⟩,rfl,rfl,fun x=>?_⟩
    . rw[hsl2] at hjn
      split at hjn
      . rename_i e;cases hjn;subst e;exact j2.val _ m2 x hm2 hx
      . exact j2.val j n x hjn hx
    . show j∈st2.kept↔_
      rw[j2.kp j,hsl2];by_cases hjk:j=k
      . subst hjk
        rw[if_pos rfl];constructor
        . rintro⟨n,x,e,e2⟩;rw[hm2] at e;cases e;exact⟨_,x,rfl,e2⟩
        . rintro⟨n,x,e,e2⟩;cases e;exact⟨m2,x,hm2,e2⟩
      . rw[if_neg hjk]
    . rw[hsl2] at hjn
      split at hjn
      . rename_i e;cases hjn;subst e;exact j2.v0 _ m2 hm2 hv
      . exact j2.v0 j n hjn hv
    . rw[iA]
      by_cases hx:x=k
      . rw[if_pos hx,hx,hb0]
      . rw[if_neg hx,ha2 x,iA,if_neg hx]
  have hwork:∀o st2,workOut wp E k (st.put k {m with act:=true})=some (o,st2)->k∉st.kept->o = .ok ()/\Jv F a (st2.leave k)/\(∃l,yN G st (st2.leave k) l)/\k∈(st2.leave k).kept:=by
   intro o st2 hw hd;obtain⟨e1,j2,k2,l,b1,b2,b3,b4,b5⟩:=Di hE wT hrk hj1 hg hr1 hk1 hd hw;obtain⟨c1,c2,c3,c4⟩:=hleave st2 j2 b5 k2;refine⟨e1,c1,⟨k::l,⟨c3.trans b1,b2,fun x hx=>?_,fun x hx=>by rw[c2];exact b4 x hx,c4,fun x hx=>?_,fun x hx=>?_⟩⟩,by rw[c2];exact k2⟩
   . rcases List.mem_cons.1 hx with rfl|hx
     . exact⟨hd,by rw[c2];exact k2⟩
     . have h1:=b3 x hx
       exact⟨h1.1,by rw[c2];exact h1.2.1⟩
   . rcases List.mem_cons.1 hx with rfl|hx
     . exact hb0
     . have h1:=(b3 x hx).2.2.1
       rw[iA] at h1;by_cases hxk:x=k
       . rw[hxk];exact hb0
       . rw[if_neg hxk] at h1;exact h1
   . rcases List.mem_cons.1 hx with rfl|hx
     . exact hg
     . exact (b3 x hx).2.2.2
  have hs1:(st.put k {m with act:=true}).sl k=some {m with act:=true}:=by rw[hsl1,if_pos rfl]
  unfold inner at h;rw[hs1] at h;simp only at h;by_cases hver:m.ver=some (st.put k {m with act:=true}).rev
  . rw[if_pos hver] at h
    by_cases hkk:k∈(st.put k {m with act:=true}).kept
    . rw[if_pos hkk] at h
      simp only at h;cases h;have hu:(st.put k {m with act:=true}).use k={(st.put k {m with act:=true}).put k {{m with act:=true} with used:=(st.uses+1) % j9} with uses:=(st.uses+1) % j9,kept:=st.kept}:=by
       unfold St.use;rw[hs1];simp only[if_pos hkk];rfl
      have hslu:∀j,((st.put k {m with act:=true}).use k).sl j=if j=k then some {{m with act:=true} with used:=(st.uses+1) % j9} else st.sl j:=fun j=>by
       rw[hu];simp only[St.put];split <;> rfl
      have hku:((st.put k {m with act:=true}).use k).kept=st.kept:=by rw[hu]
      have hbu:((st.put k {m with act:=true}).use k).began=st.began:=by rw[hu];rfl
      have hju:Jv F a ((st.put k {m with act:=true}).use k):=by
       refine⟨by rw[hu];exact hj.files,fun j n x hjn hx=>?_,fun j=>?_,fun j n hjn hv=>?_⟩
       . rw[hslu] at hjn
         split at hjn
         . rename_i e;cases hjn;subst e;exact hj.val _ m x hm hx
         . exact hj.val j n x hjn hx
       . rw[hku,hj.kp j,hslu]
         by_cases hjk:j=k
         . subst hjk
           rw[if_pos rfl];constructor
           . rintro⟨n,x,e,e2⟩;rw[hm] at e;cases e;exact⟨_,x,rfl,e2⟩
           . rintro⟨n,x,e,e2⟩;cases e;exact⟨m,x,hm,e2⟩
         . rw[if_neg hjk]
       . rw[hslu] at hjn
         split at hjn
         . rename_i e;cases hjn;subst e;exact hj.v0 _ m hm hv
         . exact hj.v0 j n hjn hv
      have hau:∀x,actB ((st.put k {m with act:=true}).use k) x=actB (st.put k {m with act:=true}) x:=fun x=>by
       rw[iA];unfold actB;rw[hslu];by_cases hx:x=k
       . rw[if_pos hx,if_pos hx]
       . rw[if_neg hx,if_neg hx]
      obtain⟨c1,c2,c3,c4⟩:=hleave _ hju hau (by rw[hku];exact hkk);exact⟨rfl,c1,⟨[],yN.same (c3.trans hbu) (c2.trans hku) c4⟩,by rw[c2,hku];exact hkk⟩
    . rw[if_neg hkk] at h
      cases hw:workOut wp E k (st.put k {m with act:=true}) with
      | none=>rw[hw] at h;cases h
      | some q=>
       obtain⟨o,st2⟩:=q;rw[hw] at h;obtain⟨rfl,g⟩:=hwork o st2 hw hkk;cases h;exact⟨rfl,g⟩
  . rw[if_neg hver] at h
    by_cases hn:m.ver=none
    . rw[if_pos hn] at h
      have hkk:k∉st.kept:=fun hkk=>by
       obtain⟨n,x,e,e2⟩:=(hj.kp k).1 hkk;rw[hm] at e;cases e;rw[hj.v0 k m hm hn] at e2;cases e2
      cases hw:workOut wp E k (st.put k {m with act:=true}) with
      | none=>rw[hw] at h;cases h
      | some q=>
       obtain⟨o,st2⟩:=q;rw[hw] at h;obtain⟨rfl,g⟩:=hwork o st2 hw hkk;cases h;exact⟨rfl,g⟩
    . rw[if_neg hn] at h;cases h
theorem IR(wT:∀k,bV F a (wp k)=some (a k))(hrk:∀k j,G k->Lk.slot j∈qs F a (wp k)->G j/\r j<r k):∀n,EF F a G r (pC wp lp n)
 | 0=>fun k st out st' _ _ _ h=>by cases h
 | n+1=>Fv (IR wT hrk n) wT hrk
theorem ask_fr(wT:∀k,bV F a (wp k)=some (a k))(hrk:∀k j,G k->Lk.slot j∈qs F a (wp k)->G j/\r j<r k){n:Nat}{nc:Bool}{k:K}{st st':St V}{out:Out (V×List Lk)}(hj:Jv F a st)(hi:ER st)(hg:G k)(h:cE (pC wp lp n) nc k [] {st with began:=[]}=some (out,st')) :
 st'.began.Nodup/\(∀x∈st'.began,x∉st.kept/\x∈st'.kept/\G x)/\∀x∈st.kept,x∈st'.kept:=by
 obtain⟨lk,_,_,l,f⟩:=Ao (IR wT hrk n) (st:={st with began:=[]}) ⟨hj.files,hj.val,hj.kp,hj.v0⟩ hg (fun c hc=>by
  have h1:actB st c=true:=hc;rw[hi c] at h1;cases h1) h
 have hb:st'.began=l:=by rw[f.beg];rfl
 rw[hb];exact⟨f.nd,fun x hx=>⟨(f.new x hx).1,(f.new x hx).2,f.good x hx⟩,f.mono⟩
end
end Go.Proofs.YthibodlojlkppaaGreatDoor
namespace Go.Proofs.YthibodlojlkppaaGreatDoor
open Go.RowKit
variable [DecidableEq K] [LawfulBEq Lk]
structure G5 (k:K):Prop where
 file:∃i,i<5/\k.file=hZ i
 name:((k.kind=1\/k.kind=2\/k.kind=3\/k.kind=4\/k.kind=8)/\k.name=bA)\/((k.kind=5\/k.kind=6\/k.kind=7)/\∃m,m<10/\k.name=fC m)
def NB(n:ByteArray):Nat:=(n.data.toList.getD 1 0).toNat
def rM(k:K):Nat:=if k.kind=8 then 1000 else if k.kind=7 then 10+NB k.name else rk k
theorem IU{m:Nat}(h:m<10):NB (fC m)=97+m:=by
 have:(List.range 10).all (fun m=>decide (NB (fC m)=97+m))=true:=by kernel_rfl
 exact of_decide_eq_true (List.all_eq_true.1 this m (List.mem_range.2 h))
theorem Mc(n:ByteArray):NB n<256:=UInt8.toNat_lt _
section
variable {F:eV} {E:Nat->PE} {V:Nat->Nat}
theorem Made.expr7(h:Made F E V){i m:Nat}(hi:i<5)(hm:m<10){e:Ex}(he:dD F (hZ i) (fC m)=some e):m / 2=i/\e=(E m).x:=by
 by_cases c:m / 2=i
 . subst c
   rw[h.expr hm] at he;cases he;exact⟨rfl,rfl⟩
 . obtain⟨n,hn⟩:=h.named hi hm
   rw[if_neg c] at hn;have ht:bK F (hZ i) (fC m)=none_:=by unfold bK;rw[hn]
   unfold dD at he;rw[ht,aZ.2 rfl] at he;cases he
theorem Made.names(h:Made F E V){m:Nat}(hm:m<10){n:ByteArray}(hn:n∈aL (E m).x []):∃j,j<m/\j<10/\n=fC j:=by
 rcases (fV _ _ _).1 hn with hx|hx
 . simp at hx
 . exact PE.refs (E m) (h.ok m hm) _ hx
theorem eK{i:Nat}{d:Nat}(hi:i<5)(hd:d=1\/d=2\/d=3\/d=4\/d=8):G5 ⟨d,hZ i,bA⟩:=⟨⟨i,hi,rfl⟩,.inl ⟨hd,rfl⟩⟩
theorem lL{i m:Nat}{d:Nat}(hi:i<5)(hm:m<10)(hd:d=5\/d=6\/d=7):G5 ⟨d,hZ i,fC m⟩:=⟨⟨i,hi,rfl⟩,.inr ⟨hd,m,hm,rfl⟩⟩
theorem Made.closed(h:Made F E V){k j:K}(hg:G5 k)(hj:Lk.slot j∈cW F k):G5 j:=by
 obtain⟨kd,f,nm⟩:=k;obtain⟨⟨i,hi,hf⟩,hn⟩:=hg;simp only at hf hn;subst hf;rcases hn with ⟨hk,rfl⟩|⟨hk,m,hm,rfl⟩
 . rcases hk with rfl|rfl|rfl|rfl|rfl
   . simp[cW] at hj
   . simp[cW] at hj
   . simp[cW] at hj;subst hj;exact eK hi (by simp)
   . simp[cW] at hj;subst hj;exact eK hi (by simp)
   . replace hj:Lk.slot j∈(Lk.slot ⟨2,hZ i,bA⟩::.slot ⟨3,hZ i,bA⟩::l7 F (hZ i) (aO F (hZ i)).1 (aO F (hZ i)).1):=hj
     rcases List.mem_cons.1 hj with e|hj
     . cases e;exact eK hi (by simp)
     rcases List.mem_cons.1 hj with e|hj
     . cases e;exact eK hi (by simp)
     obtain⟨x,hx,hq⟩:=List.mem_flatMap.1 hj;obtain⟨n,n',ht⟩:=h.tree hi;have hx':=hx;rw[ht] at hx';have hlet:∀m,m<10->x.name=fC m->x.kind=2->G5 j:=fun m hm e1 e2=>by
      unfold l6 at hq;rw[e2,if_neg (by decide),e1] at hq;split at hq
      . simp at hq
      . rcases List.mem_cons.1 hq with e|hq
        . cases e;exact lL hi hm (by simp)
        . split at hq
          . simp at hq
          . rw[List.mem_singleton] at hq;cases hq;exact lL hi hm (by simp)
     rcases List.mem_append.1 hx' with hx'|hx'
     . obtain⟨h1,u,h2,h3⟩:=yM _ _ hx'
       have hu:=List.mem_range.1 h2;unfold l6 at hq;rw[h1,if_pos (by decide),List.mem_singleton,h3] at hq;cases hq;exact eK (by omega) (by simp)
     . simp only[List.mem_cons,List.not_mem_nil,or_false] at hx'
       rcases hx' with rfl|rfl
       . exact hlet (2*i) (by omega) rfl rfl
       . exact hlet (2*i+1) (by omega) rfl rfl
 . rcases hk with rfl|rfl|rfl
   . replace hj:Lk.slot j∈(Lk.slot ⟨3,hZ i,bA⟩::(match aU (fC m) (aO F (hZ i)).1 with | []=>oH (bS (aO F (hZ i)).1 [])|_=>[])):=hj
     rcases List.mem_cons.1 hj with e|hj
     . cases e;exact eK hi (by simp)
     . split at hj
       . rw[h.uses hi] at hj
         unfold oH at hj;obtain⟨g,hg,e⟩:=List.mem_map.1 hj;cases e;obtain⟨u,hu,rfl⟩:=List.mem_map.1 hg;have:=List.mem_range.1 hu
         exact eK (by omega) (by simp)
       . simp at hj
   . replace hj:Lk.slot j∈(Lk.slot ⟨3,hZ i,bA⟩::(match aU (fC m) (aO F (hZ i)).1 with | [x]=>(match x.ex with|none=>[]|some e=>iS F (hZ i) (aL e []))|_=>[])):=hj
     rcases List.mem_cons.1 hj with e|hj
     . cases e;exact eK hi (by simp)
     . obtain⟨n,hn⟩:=h.named hi hm
       rw[hn] at hj;by_cases c:m / 2=i
       . rw[if_pos c] at hj
         replace hj:Lk.slot j∈iS F (hZ i) (aL (E m).x []):=hj;unfold iS at hj;obtain⟨nn,hnn,hq⟩:=List.mem_flatMap.1 hj;obtain⟨q,hq1,hq2,rfl⟩:=h.names hm hnn;unfold rE at hq;rcases List.mem_cons.1 hq with e|hq
         . cases e;exact lL hi hq2 (by simp)
         . rw[h.find hi (by omega)] at hq
           split at hq
           . rw[List.mem_singleton] at hq;cases hq;exact eK (by omega) (by simp)
           . simp at hq
       . rw[if_neg c] at hj
         simp at hj
   . replace hj:Lk.slot j∈(Lk.slot ⟨6,hZ i,fC m⟩::(if (bB (bK F (hZ i) (fC m)) none_||bB (bK F (hZ i) (fC m)) eX)=true then [] else .slot ⟨3,hZ i,bA⟩::(match dD F (hZ i) (fC m) with|none=>[]|some e=>fB F (hZ i) (aL e [])))):=hj
     rcases List.mem_cons.1 hj with e|hj
     . cases e;exact lL hi hm (by simp)
     . split at hj
       . simp at hj
       . rcases List.mem_cons.1 hj with e|hj
         . cases e;exact eK hi (by simp)
         . split at hj
           . simp at hj
           . rename_i e he
             obtain⟨c,rfl⟩:=h.expr7 hi hm he;unfold fB at hj;obtain⟨nn,hnn,hq⟩:=List.mem_flatMap.1 hj;obtain⟨q,hq1,hq2,rfl⟩:=h.names hm hnn;rw[h.find hi (by omega)] at hq;simp only[List.mem_cons,List.not_mem_nil,or_false] at hq;rcases hq with e|e
             . cases e;exact lL hi hq2 (by simp)
             . cases e;exact lL (by omega) hq2 (by simp)
theorem Made.rank(h:Made F E V){k j:K}(hg:G5 k)(hj:Lk.slot j∈cW F k):rM j<rM k:=by
 rcases jX hj with h1|⟨h1,h2⟩
 . have hj5:=h.closed hg hj
   by_cases k8:k.kind=8
   . have:rM k=1000:=if_pos k8
     rw[this];have hk8:rk k=6:=by unfold rk;rw[k8];rfl
     have j8:j.kind≠8:=fun e=>by
      have:rk j=6:=by unfold rk;rw[e];rfl
      omega
     unfold rM;rw[if_neg j8];have:=Mc j.name
     split <;> omega
   . have j8:j.kind≠8:=fun e=>by
      have h3:rk j=6:=by unfold rk;rw[e];rfl
      have h4 : rk k ≤ 6 := by unfold rk; repeat' split
                               all_goals omega
      omega
     have j7:j.kind≠7:=fun e=>by
      have h3:rk j=5:=Gx.2 e;have h4:rk k=6:=by
       have : rk k ≤ 6 := by unfold rk; repeat' split
                             all_goals omega
       omega
      obtain⟨_,hn⟩:=hg;obtain⟨kd,f,nm⟩:=k;simp only at hn k8;rcases hn with ⟨hk,_⟩|⟨hk,_⟩
      . rcases hk with rfl|rfl|rfl|rfl|rfl <;> simp[rk] at h4 k8
      . rcases hk with rfl|rfl|rfl <;> simp[rk] at h4
     have e1:rM j=rk j:=by unfold rM;rw[if_neg j8,if_neg j7]
     rw[e1];unfold rM;rw[if_neg k8];split
     . have h4 : rk j ≤ 6 := by unfold rk; repeat' split
                                all_goals omega
       omega
     . exact h1
 . obtain⟨kd,f,nm⟩:=k
   simp only at h1;subst h1;obtain⟨⟨i,hi,hf⟩,hn⟩:=hg;simp only at hf hn;subst hf;rcases hn with ⟨hk,_⟩|⟨_,m,hm,rfl⟩
   . omega
   obtain⟨e,he,n,hn,rfl⟩:=oZ hj h2;obtain⟨c,rfl⟩:=h.expr7 hi hm he;obtain⟨q,hq1,hq2,rfl⟩:=h.names hm hn;have e1:∀f m,rM ⟨7,f,fC m⟩=10+NB (fC m):=fun f m=>by unfold rM;rw[if_neg (by simp),if_pos rfl]
   rw[e1,e1,IU hq2,IU hm];omega
theorem Made.ask_fr(h:Made F E V){v:ByteArray->ByteArray->ByteArray}(hv:jT F v)(hfo:pS F){lp:Go.Proofs.YthibodlojlkppaaGreatDoor.V}{n:Nat}{nc:Bool}{k:K}{st st':St Go.Proofs.YthibodlojlkppaaGreatDoor.V}{out:Out (Go.Proofs.YthibodlojlkppaaGreatDoor.V×List Lk)}(hi:Inv F (bQ F v) st)(hid:ER st)(hg:G5 k)(hm:cE (pC wp lp n) nc k [] {st with began:=[]}=some (out,st')) :
 st'.began.Nodup/\(∀x∈st'.began,x∉st.kept/\x∈st'.kept/\G5 x)/\∀x∈st.kept,x∈st'.kept:=
 Go.Proofs.YthibodlojlkppaaGreatDoor.ask_fr (F:=F) (a:=bQ F v) (G:=G5) (r:=rM) (fun k=>(nW hv hfo k).1) (fun k j hk hj=>by
  rw[(nW hv hfo k).2] at hj;exact⟨h.closed hk hj,h.rank hk hj⟩) (Jv.of hi) hid hg hm
end
def Kv:List (Nat×Nat×Option Nat):=(List.range 5).flatMap fun i=>([1,2,3,4,8]:List Nat).map (fun d=>(d,i,none))++([5,6,7]:List Nat).flatMap fun d=>(List.range 10).map fun m=>(d,i,some m)
def Dj(x:Nat×Nat×Option Nat):K:=⟨x.1,hZ x.2.1,match x.2.2 with|none=>bA|some m=>fC m⟩
theorem Ap{k:K}(h:G5 k):∃x∈Kv,k=Dj x:=by
 obtain⟨kd,f,nm⟩:=k;obtain⟨⟨i,hi,hf⟩,hn⟩:=h;simp only at hf hn;subst hf;rcases hn with ⟨hk,rfl⟩|⟨hk,m,hm,rfl⟩
 . refine⟨(kd,i,none),List.mem_flatMap.2 ⟨i,List.mem_range.2 hi,List.mem_append_left _ (List.mem_map.2 ⟨kd,?_,rfl⟩)⟩,rfl⟩
   rcases hk with rfl|rfl|rfl|rfl|rfl <;> simp
 . refine⟨(kd,i,some m),List.mem_flatMap.2 ⟨i,List.mem_range.2 hi,List.mem_append_right _ (List.mem_flatMap.2 ⟨kd,?_,List.mem_map.2 ⟨m,List.mem_range.2 hm,rfl⟩⟩)⟩,rfl⟩
   rcases hk with rfl|rfl|rfl <;> simp
end Go.Proofs.YthibodlojlkppaaGreatDoor

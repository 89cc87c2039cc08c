/-
  The engine's model: works come to their ends. The engine's model: a memo is made. The engine's model: every fetch comes to its end. What the texts tell: each question's answer, and what it is worked out of.
-/
import Derived.Test.YthibodlojlkppaaGreatDoorB21
import Derived.Test.YthibodlojlkppaaGreatDoorB22
set_option linter.unusedVariables false
set_option linter.unusedSectionVars false
set_option linter.unusedSimpArgs false
set_option maxRecDepth 100000
set_option maxHeartbeats 40000000

namespace Go.Proofs.YthibodlojlkppaaGreatDoor
variable [DecidableEq K] [LawfulBEq Lk]
section
variable {V:Type} {wp:K→Prog V} {lp:V} {F:Txt} {a:K→V} {U:List K} {M Q:Nat}
def RankOk (st:St V) (k:K):Prop:=∀ c,actB st c=true→rk k < rk c∨k.kind=7∧c.kind=7
structure Pcd (F:Txt) (a:K→V) (U:List K) (M Q:Nat) (st:St V):Prop where
 inv:Inv F a st
 psi:Psi U st+Ina U st≤M
 kb:KB U st < BIG
 us:US M Q st+1 < W64
structure Pst (F:Txt) (a:K→V) (U:List K) (M Q:Nat) (st st':St V):Prop where
 inv:Inv F a st'
 mono:Mono X0 st st'
 kb:KB U st'≤KB U st
theorem Pst.pre {st st':St V} (h:Pst F a U M Q st st') (p:Pcd F a U M Q st) (hp:Psi U st'≤Psi U st) (hu:US M Q st'+1 < W64):Pcd F a U M Q st' :=
 ⟨h.inv,by have:=p.psi;rw [h.mono.ina];omega,by have:=p.kb;have:=h.kb;omega,hu⟩
theorem Pst.trans {st st1 st2:St V} (h:Pst F a U M Q st st1) (g:Pst F a U M Q st1 st2):Pst F a U M Q st st2 :=
 ⟨g.inv,h.mono.trans g.mono,Nat.le_trans g.kb h.kb⟩
theorem Pst.refl {st:St V} (h:Inv F a st):Pst F a U M Q st st:=⟨h,Mono.refl _ _,Nat.le_refl _⟩
theorem RankOk.mono {st st':St V} {k:K} (h:RankOk st k) (m:Mono X0 st st'):RankOk st' k:=fun c hc=>h c (by rw [←m.actB c];exact hc)
def EngOk (wp:K→Prog V) (F:Txt) (a:K→V) (U:List K) (M Q n:Nat) (E:Eng V):Prop :=
 ∀ k st,Pcd F a U M Q st→k∈U→(∃ m,st.sl k=some m)→RankOk st k→Ina U st < n →
  ∃ out st',E k st=some (out,st')∧Pst F a U M Q st st'∧US M Q st'≤US M Q st+1 ∧
   match out with
   | .ok _=>Psi U st'≤Psi U st∧Last st' k
   | .error c=>Psi U st'≤Psi U st+Ina U st∧k.kind=7∧c.kind=7∧actB st c=true∧Reach F a wp k c
theorem Inv.valNow {st:St V} (h:Inv F a st) {k:K} (hk:k∈st.kept):st.val k=some (a k):=by
 obtain ⟨m,x,e,hx⟩:=(h.kp k).1 hk
 have:=(h.mem k m e).v2 x hx
 subst this
 simp [St.val,e,hx]
theorem und_kept {st st':St V} (h:st'.kept=st.kept):Und U st'=Und U st:=by
 unfold Und doneB;rw [h]
theorem st_find {st:St V} (h:Inv F a st) (k:K):Psi U (st.find k)=Psi U st∧KB U (st.find k)=KB U st∧US M Q (st.find k)=US M Q st:=by
 obtain ⟨_,hm,_,hb,hk,hu⟩:=h.find k
 refine ⟨?_,?_,?_⟩
 · unfold Psi;rw [hb,und_kept hk]
 · unfold KB;rw [hk,und_kept hk]
 · unfold US;rw [hu,hb]
theorem st_source {st:St V} (h:Inv F a st) (f:ByteArray):Psi U (st.source f)=Psi U st∧KB U (st.source f)=KB U st∧US M Q (st.source f)=US M Q st:=by
 obtain ⟨_,hm,hb,hk,hu⟩:=h.source f
 refine ⟨?_,?_,?_⟩
 · unfold Psi;rw [hb,und_kept hk]
 · unfold KB;rw [hk,und_kept hk]
 · unfold US;rw [hu,hb]
def CycOut (wp:K→Prog V) (F:Txt) (a:K→V) (U:List K) (k:K) (st st':St V) (c:K):Prop :=
 Psi U st'≤Psi U st+Ina U st∧k.kind=7∧c.kind=7∧actB st c=true∧∃ j,Lk.slot j∈qs F a (wp k)∧Reach F a wp j c
def RankIn (st:St V) (k:K):Prop:=∀ c,actB st c=true→c=k∨rk k < rk c∨k.kind=7∧c.kind=7
theorem RankIn.mono {st st':St V} {k:K} (h:RankIn st k) (m:Mono X0 st st'):RankIn st' k:=fun c hc=>h c (by rw [←m.actB c];exact hc)
theorem RankIn.nested {st:St V} {k j:K} (h:RankIn st k) (hj:rk j < rk k∨(k.kind=7∧j.kind=7)):RankOk st j:=fun c hc=>by
 rcases h c hc with rfl | h1 | ⟨h1,h2⟩
 · rcases hj with h2 | ⟨h2,h3⟩
   · exact .inl h2
   · exact .inr ⟨h3,h2⟩
 · rcases hj with h2 | ⟨h2,h3⟩
   · exact .inl (by omega)
   · rw [rk7.2 h2] at h1
     exact .inl (by rw [rk7.2 h3];exact h1)
 · rcases hj with h3 | ⟨h3,h4⟩
   · rw [rk7.2 h1] at h3
     exact .inl (by rw [rk7.2 h2];exact h3)
   · exact .inr ⟨h4,h2⟩
theorem RankIn.cyc {st:St V} {k j c:K} (h:RankIn st k) (hj:rk j < rk k∨(k.kind=7∧j.kind=7)) (hj7:j.kind=7) (hc7:c.kind=7) (hc:actB st c=true):k.kind=7:=by
 rcases hj with h1 | h1
 · rcases h c hc with rfl | h2 | h2
   · exact hc7
   · rw [rk7.2 hc7] at h2;rw [rk7.2 hj7] at h1;omega
   · exact h2.1
 · exact h1.1
theorem run_ok {n:Nat} {E:Eng V} (hE:EngOk wp F a U M Q n E) {k:K} (hk:k∈U) (hS:Spec wp lp F a) (hU:Uni wp F a U Q) :
 ∀ (p:Prog V) (lk:List Lk) (st:St V),Pcd F a U M Q st→US M Q st+(qs F a p).length+1 < W64→evalP F a p=some (a k)→(∀ l,l∈qs F a p→l∈qs F a (wp k))→ded lk (qs F a p)=ded [] (qs F a (wp k)) →
  (∀ j,Lk.slot j∈lk→j∈st.kept)→RankIn st k→Ina U st < n →
  ∃ out st',run E (k.kind != 7) p lk st=some (out,st')∧Pst F a U M Q st st'∧US M Q st'≤US M Q st+(qs F a p).length ∧
   match out with
   | .ok (v,_)=>Psi U st'≤Psi U st∧v=a k
   | .error c=>CycOut wp F a U k st st' c
 | ⟨.inl v,_⟩,lk,st,hP,_,he,_,hd,hl,_,_=>by
  simp only [evalP,Option.some.injEq] at he
  exact ⟨.ok (v,lk),st,rfl,Pst.refl hP.inv,Nat.le_add_right _ _,Nat.le_refl _,he⟩
 | ⟨.inr (.inl _),_⟩,lk,st,_,_,he,_,_,_,_,_=>by simp [evalP] at he
 | ⟨.inr (.inr (.inl f)),c⟩,lk,st,hP,hus,he,hq,hd,hl,hR,hI=>by
  have hlen:lk.length < BIG:=by
   have h1:=(ded_len (lk ++ [.src f]) (qs F a (c (F f)))).1
   have h2:=(ded_len [] (qs F a (wp k))).2
   have h3:=hU.len k hk
   have h4:=hU.big
   simp only [qs,ded] at hd
   rw [hd] at h1
   simp at h1 h2
   omega
  obtain ⟨i1,m1,b1,k1,u1⟩:=hP.inv.source f
  obtain ⟨p1,p2,p3⟩:=st_source (U:=U) (M:=M) (Q:=Q) hP.inv f
  have hPo:Pst F a U M Q st (st.source f):=⟨i1,m1,Nat.le_of_eq p2⟩
  have hF:st.files f=F f:=by rw [hP.inv.files]
  have hql:(qs F a (Prog.look f c)).length=(qs F a (c (F f))).length+1:=by simp [qs]
  rw [hql] at hus
  obtain ⟨out,st',e,hpo,hu,hout⟩:=run_ok hE hk hS hU (c (F f)) (lk ++ [.src f]) (st.source f) (hPo.pre hP (Nat.le_of_eq p1) (by rw [p3];exact hP.us)) (by rw [p3];omega) (by simpa [evalP] using he) (fun l h=>hq l (by simp [qs,h])) (by simpa [qs,ded] using hd) (fun j h=>by
   rcases List.mem_append.1 h with h1 | h1
   · rw [k1];exact hl j h1
   · simp at h1) (hR.mono m1) (by rw [m1.ina];exact hI)
  have hfs:f.size≤BIG:=hU.ssz k hk f (hq _ (by simp [qs]))
  refine ⟨out,st',by simp only [run,hlen,hfs,and_self,if_true,hF];exact e,hPo.trans hpo,by rw [hql];omega,?_⟩
  cases out with
  | ok a=>exact ⟨Nat.le_trans hout.1 (Nat.le_of_eq p1),hout.2⟩
  | error c' =>
   obtain ⟨a1,a2,a3,a4,a5⟩:=hout
   exact ⟨by rw [m1.ina] at a1;omega,a2,a3,by rw [←m1.actB];exact a4,a5⟩
 | ⟨.inr (.inr (.inr j)),c⟩,lk,st,hP,hus,he,hq,hd,hl,hR,hI=>by
  have hjq:Lk.slot j∈qs F a (wp k):=hq _ (by simp [qs])
  have hsz:¬ (BIG < j.file.size∨BIG < j.name.size):=by
   have:=hU.sz j (hU.clo k hk j hjq)
   omega
  have hql:(qs F a (Prog.get j c)).length=(qs F a (c (a j))).length+1:=by simp [qs]
  rw [hql] at hus
  by_cases hmem:Lk.slot j∈lk
  · have hkj:=hl j hmem
    have hfind:st.find j=st:=by
     obtain ⟨m,x,hm,_⟩:=(hP.inv.kp j).1 hkj
     simp [St.find,hm]
    have hv:=hP.inv.valNow hkj
    obtain ⟨out,st',e,hpo,hu,hout⟩:=run_ok hE hk hS hU (c (a j)) lk st hP (by omega) (by simpa [evalP] using he) (fun l h=>hq l (by simp [qs,h])) (by simpa [qs,ded,hmem] using hd) hl hR hI
    exact ⟨out,st',by simp only [run,fetC,hsz,if_false,hmem,if_true,hfind,hv,Option.map_some];exact e,hpo,by rw [hql];omega,hout⟩
  · have hlen:lk.length < BIG:=by
     have h1:=(ded_len (lk ++ [.slot j]) (qs F a (c (a j)))).1
     have h2:=(ded_len [] (qs F a (wp k))).2
     have h3:=hU.len k hk
     have h4:=hU.big
     simp only [qs,ded,hmem,if_false] at hd
     rw [hd] at h1
     simp at h1 h2
     omega
    obtain ⟨i1,m1,s1,b1,k1,u1⟩:=hP.inv.find j
    obtain ⟨p1,p2,p3⟩:=st_find (U:=U) (M:=M) (Q:=Q) hP.inv j
    have hPo:Pst F a U M Q st (st.find j):=⟨i1,m1,Nat.le_of_eq p2⟩
    have hrj:=hS.rank k j hjq
    obtain ⟨out,st2,e,hpo,hu,hout⟩:=hE j (st.find j) (hPo.pre hP (Nat.le_of_eq p1) (by rw [p3];exact hP.us)) (hU.clo k hk j hjq) s1 ((hR.mono m1).nested hrj) (by rw [m1.ina];exact hI)
    rw [p3] at hu
    have hPo2:=hPo.trans hpo
    cases out with
    | error c' =>
     obtain ⟨a1,a2,a3,a4,a5⟩:=hout
     have hk7:=(hR.mono m1).cyc hrj a2 a3 a4
     exact ⟨.cyc c',st2,by simp [run,fetC,hsz,hmem,e,hk7,a2],hPo2,by rw [hql];omega,by rw [m1.ina] at a1;omega,hk7,a3,by rw [←m1.actB];exact a4,j,hjq,a5⟩
    | ok a' =>
     obtain ⟨a1,_,_,_,_,hkj,_⟩:=hout
     have hv:=hpo.inv.valNow hkj
     obtain ⟨out,st',e',hpo',hu',hout⟩:=run_ok hE hk hS hU (c (a j)) (lk ++ [.slot j]) st2 (hPo2.pre hP (Nat.le_trans a1 (Nat.le_of_eq p1)) (by omega)) (by omega) (by simpa [evalP] using he) (fun l h=>hq l (by simp [qs,h])) (by simpa [qs,ded,hmem] using hd) (fun i h=>by
      rcases List.mem_append.1 h with h1 | h1
      · exact hPo2.mono.kept i (hl i h1)
      · simp at h1;subst h1
        exact hkj) (hR.mono hPo2.mono) (by rw [hPo2.mono.ina];exact hI)
     refine ⟨out,st',by simp only [run,fetC,hsz,hmem,if_false,e,hlen,if_true,hv,Option.map_some];exact e',hPo2.trans hpo',by rw [hql];omega,?_⟩
     cases out with
     | ok b=>exact ⟨Nat.le_trans hout.1 (Nat.le_trans a1 (Nat.le_of_eq p1)),hout.2⟩
     | error c' =>
      obtain ⟨b1,b2,b3,b4,b5⟩:=hout
      exact ⟨by rw [hPo2.mono.ina] at b1;omega,b2,b3,by rw [←hPo2.mono.actB];exact b4,b5⟩
end
section
variable {V:Type} {wp:K→Prog V} {lp:V} {F:Txt} {a:K→V} {U:List K} {M Q:Nat}
structure PostK (F:Txt) (a:K→V) (U:List K) (k:K) (st st':St V):Prop where
 inv:Inv F a st'
 mono:Mono (· = k) st st'
 kb:KB U st'≤KB U st
theorem PostK.trans {k:K} {st st1 st2:St V} (h:PostK F a U k st st1) (g:PostK F a U k st1 st2):PostK F a U k st st2 :=
 ⟨g.inv,h.mono.trans g.mono,Nat.le_trans g.kb h.kb⟩
theorem psi_eq (st:St V):Psi U st=st.began.length+(1+U.length) * Und U st:=rfl
def ansS (st:St V) (k:K) (m:Memo V) (v:V):St V :=
 { st.put k { ansM st m v with used:=st.uses+1 } with uses:=st.uses+1,kept:=st.kept ++ [k] }
theorem answer_eq {st:St V} {k:K} {m:Memo V} (hm:st.sl k=some m) (hl:st.kept.length < BIG) (hk:k ∉ st.kept) (hu:st.uses+1 < W64) (v:V):answer st k v=some (ansS st k m v):=by
 have hw:(st.uses+1) % W64=st.uses+1:=Nat.mod_eq_of_lt hu
 simp only [answer,hm,hl,hk,not_false_eq_true,and_self,if_true,Option.some.injEq]
 simp [St.use,St.put,ansS,ansM,hk,hw]
 funext j
 split <;> rfl
theorem ans_ok {st:St V} (h:Inv F a st) {k:K} (hk:k∈U) {m:Memo V} (hm:st.sl k=some m) {v:V} (hv:v=a k) (hnk:k ∉ st.kept) :
 PostK F a U k st (ansS st k m v)∧Last (ansS st k m v) k∧Und U (ansS st k m v)+1≤Und U st∧actB (ansS st k m v) k=actB st k:=by
 have hsl:∀ j,(ansS st k m v).sl j=if j=k then some { ansM st m v with used:=st.uses+1 } else st.sl j:=fun _=>rfl
 have hke:(ansS st k m v).kept=st.kept ++ [k]:=rfl
 have hkp:∀ j,j∈(ansS st k m v).kept↔j∈st.kept∨j=k:=fun j=>by rw [hke];simp
 have hund:Und U (ansS st k m v)+1≤Und U st:=by
  refine countP_lt U (fun j _ hj => ?_) k hk ?_ ?_
  · simp [doneB,hke] at hj;simp [doneB,hj.1]
  · simp [doneB,hke]
  · simp [doneB,hnk]
 refine ⟨⟨⟨h.files,fun j n hj => ?_,fun j => ?_,?_⟩,⟨rfl,rfl,fun j n hj => ?_,fun j hn hj n hn' => ?_,fun j hj=>(hkp j).2 (.inl hj)⟩,?_⟩,⟨_,by rw [hsl,if_pos rfl],rfl,rfl,(hkp k).2 (.inr rfl),fun j n hj hn => ?_⟩,hund,?_⟩
 · rw [hsl] at hj
   by_cases hjk:j=k
   · rw [if_pos hjk] at hj
     cases hj
     subst hjk
     exact ⟨fun x=>by simp [ansM] at x,fun x hx=>by simp [ansM] at hx;exact hx.symm,fun x hx=>by simp [ansM] at hx;rw [←hx,hv],Nat.le_refl _⟩
   · rw [if_neg hjk] at hj
     exact (h.mem j n hj).up (Nat.le_add_right _ _)
 · rw [hkp,hsl]
   by_cases hjk:j=k
   · rw [if_pos hjk]
     constructor
     · intro _;exact ⟨_,v,rfl,rfl⟩
     · intro _;exact .inr hjk
   · rw [if_neg hjk,h.kp j]
     constructor
     · rintro (x | x)
       · exact x
       · exact absurd x hjk
     · exact .inl
 · rw [hke,List.nodup_append]
   exact ⟨h.nd,by simp,fun x hx y hy=>by simp at hy;subst hy;intro e;exact hnk (e ▸ hx)⟩
 · rw [hsl]
   by_cases hjk:j=k
   · exact ⟨_,by rw [if_pos hjk],fun x=>absurd hjk x⟩
   · exact ⟨n,by rw [if_neg hjk,hj],fun _=>⟨rfl,fun _=>rfl⟩⟩
 · rw [hsl,if_neg hn,hj] at hn'
   cases hn'
 · unfold KB
   rw [hke]
   simp only [List.length_append,List.length_cons,List.length_nil]
   omega
 · rw [hsl,if_neg hj] at hn
   have:=(h.mem j n hn).us
   show n.used < st.uses+1
   omega
 · unfold actB
   rw [hsl,if_pos rfl,hm]
   rfl
end
section
variable {V:Type} {wp:K→Prog V} {lp:V} {F:Txt} {a:K→V} {U:List K} {M Q:Nat}
structure Still (k:K) (m:Memo V) (st:St V):Prop where
 sl:st.sl k=some m
 act:m.act=true
theorem Still.actB {k:K} {m:Memo V} {st:St V} (h:Still k m st):Go.Proofs.YthibodlojlkppaaGreatDoor.actB st k=true:=by
 unfold Go.Proofs.YthibodlojlkppaaGreatDoor.actB;rw [h.sl];exact h.act
theorem Still.next {k:K} {m:Memo V} {st st':St V} (h:Still k m st) (g:Mono X0 st st'):Still k m st':=⟨g.act h.sl h.act,h.act⟩
theorem Still.kept {k:K} {m:Memo V} {st st':St V} (h:Still k m st) (h':Still k m st') (hi:Inv F a st) (hi':Inv F a st'):k∈st'.kept→k∈st.kept:=fun hk=>by
 obtain ⟨m',x,e1,e2⟩:=(hi'.kp k).1 hk
 rw [h'.sl] at e1;cases e1
 exact (hi.kp k).2 ⟨m,x,h.sl,e2⟩
theorem us_eq (st:St V):US M Q st=st.uses+Q * (M - st.began.length):=rfl
theorem workOut_ok {n:Nat} {E:Eng V} (hE:EngOk wp F a U M Q n E) {k:K} (hk:k∈U) (hS:Spec wp lp F a) (hU:Uni wp F a U Q) (hM:M≤BIG) {m:Memo V} {st:St V} (hi:Inv F a st) (hpsi:Psi U st+Ina U st+1≤M) (hkb:KB U st < BIG) (hus:US M Q st+1 < W64) (hm:Still k m st) (hd:k ∉ st.kept) (hR:RankIn st k) (hI:Ina U st < n) :
 ∃ out st',workOut wp E k st=some (out,st')∧PostK F a U k st st'∧US M Q st'≤US M Q st ∧
  match out with
  | .ok _=>Psi U st'≤Psi U st∧Last st' k∧Go.Proofs.YthibodlojlkppaaGreatDoor.actB st' k=true
  | .error c=>Still k m st'∧k ∉ st'.kept∧US M Q st'+1≤US M Q st∧Psi U st'≤Psi U st+Ina U st+1∧k.kind=7∧c.kind=7∧actB st c=true∧∃ j,Lk.slot j∈qs F a (wp k)∧Reach F a wp j c:=by
 have hi1:Inv F a { st with began:=st.began ++ [k] }:=⟨hi.files,hi.mem,hi.kp,hi.nd⟩
 have hpsi1:Psi U { st with began:=st.began ++ [k] }=Psi U st+1:=by
  simp only [psi_eq,List.length_append,List.length_cons,List.length_nil]
  show st.began.length+(0+1)+(1+U.length) * Und U st=_
  omega
 have hbl:st.began.length < M:=by rw [psi_eq] at hpsi;omega
 have hus1:US M Q { st with began:=st.began ++ [k] }+Q=US M Q st:=by
  rw [us_eq,us_eq]
  simp only [List.length_append,List.length_cons,List.length_nil]
  obtain ⟨d,hd⟩:∃ d,M - st.began.length=d+1:=⟨M - st.began.length - 1,by omega⟩
  have:M - (st.began.length+(0+1))=d:=by omega
  rw [hd,this,Nat.mul_add]
  omega
 have hql:=hU.len k hk
 have hP1:Pcd F a U M Q { st with began:=st.began ++ [k] }:=⟨hi1,by rw [hpsi1];show Psi U st+1+Ina U st≤M;omega,hkb,by omega⟩
 obtain ⟨out,st2,e,hpo,hu,hout⟩:=run_ok hE hk hS hU (wp k) [] { st with began:=st.began ++ [k] } hP1 (by omega) (hS.fix k) (fun _ h=>h) rfl (fun _ x=>by simp at x) hR hI
 have hm2:Still k m st2:=Still.next (st:={ st with began:=st.began ++ [k] }) ⟨hm.sl,hm.act⟩ hpo.mono
 have hmono:Mono X0 st st2:=⟨hpo.mono.rev,hpo.mono.files,hpo.mono.slot,hpo.mono.new,hpo.mono.kept⟩
 have hnk2:k ∉ st2.kept:=fun h=>hd (hm.kept hm2 hi hpo.inv h)
 have hkl:st2.kept.length < BIG:=by
  have:=hpo.kb
  have h3:KB U { st with began:=st.began ++ [k] }=KB U st:=rfl
  rw [h3] at this
  unfold KB at this hkb
  omega
 cases out with
 | error c =>
  obtain ⟨a1,a2,a3,a4,a5⟩:=hout
  refine ⟨.cyc c,st2,by simp [workOut,Nat.lt_of_lt_of_le hbl hM,e],⟨hpo.inv,hmono.weak fun _ x=>x.elim,hpo.kb⟩,by omega,hm2,hnk2,by omega,?_,a2,a3,a4,a5⟩
  rw [hpsi1] at a1
  have:Ina U { st with began:=st.began ++ [k] }=Ina U st:=rfl
  omega
 | ok r =>
  obtain ⟨v,lk⟩:=r
  obtain ⟨a1,rfl⟩:=hout
  have hu2:st2.uses+1 < W64:=by
   have:st2.uses≤US M Q st2:=by rw [us_eq];omega
   omega
  obtain ⟨b1,b2,b3,b4⟩:=ans_ok hpo.inv hk hm2.sl (v:=a k) rfl hnk2
  have hus3:US M Q (ansS st2 k m (a k))=US M Q st2+1:=by
   rw [us_eq,us_eq]
   show st2.uses+1+Q * (M - st2.began.length)=_
   omega
  refine ⟨.ok (),_,by simp [workOut,Nat.lt_of_lt_of_le hbl hM,e,answer_eq hm2.sl hkl hnk2 hu2],⟨b1.inv,(hmono.weak fun _ x=>x.elim).trans b1.mono,Nat.le_trans b1.kb hpo.kb⟩,by omega,?_,b2,b4.trans hm2.actB⟩
  have h4:Psi U st2≤Psi U st+1:=by rw [←hpsi1];exact a1
  rw [psi_eq] at h4 ⊢
  rw [psi_eq] at h4 ⊢
  have h7:(1+U.length) * (Und U (ansS st2 k m (a k))+1)≤(1+U.length) * Und U st2:=Nat.mul_le_mul_left _ b3
  rw [Nat.mul_add] at h7
  show st2.began.length+_≤_
  omega
theorem inner_ok {n:Nat} {E:Eng V} (hE:EngOk wp F a U M Q n E) {k:K} (hk:k∈U) (hS:Spec wp lp F a) (hU:Uni wp F a U Q) (hM:M≤BIG) {m:Memo V} {st:St V} (hi:Inv F a st) (hpsi:Psi U st+Ina U st+1≤M) (hkb:KB U st < BIG) (hus:US M Q st+1 < W64) (hm:Still k m st) (hR:RankIn st k) (hI:Ina U st < n) :
 ∃ out st',inner wp E k st=some (out,st')∧PostK F a U k st st'∧US M Q st'≤US M Q st+1 ∧
  match out with
  | .ok _=>Psi U st'≤Psi U st∧Last st' k∧Go.Proofs.YthibodlojlkppaaGreatDoor.actB st' k=true
  | .error c=>Still k m st'∧k ∉ st'.kept∧US M Q st'+1≤US M Q st∧Psi U st'≤Psi U st+Ina U st+1∧k.kind=7∧c.kind=7∧actB st c=true∧∃ j,Lk.slot j∈qs F a (wp k)∧Reach F a wp j c:=by
 have hmo:=hi.mem k m hm.sl
 have key:k ∉ st.kept→inner wp E k st=workOut wp E k st→∃ out st',inner wp E k st=some (out,st')∧PostK F a U k st st'∧US M Q st'≤US M Q st+1 ∧
  match out with
  | .ok _=>Psi U st'≤Psi U st∧Last st' k∧Go.Proofs.YthibodlojlkppaaGreatDoor.actB st' k=true
  | .error c=>Still k m st'∧k ∉ st'.kept∧US M Q st'+1≤US M Q st∧Psi U st'≤Psi U st+Ina U st+1∧k.kind=7∧c.kind=7∧actB st c=true∧∃ j,Lk.slot j∈qs F a (wp k)∧Reach F a wp j c:=by
  intro hd he
  obtain ⟨out,st',e,h1,h2,h3⟩:=workOut_ok hE hk hS hU hM hi hpsi hkb hus hm hd hR hI
  exact ⟨out,st',he.trans e,h1,by omega,h3⟩
 cases hver:m.ver with
 | none =>
  refine key (fun hk' => ?_) (by simp [inner,hm.sl,hver])
  obtain ⟨m',x,e1,e2⟩:=(hi.kp k).1 hk'
  rw [hm.sl] at e1;cases e1
  rw [hmo.v0 hver] at e2;cases e2
 | some v =>
  have hv:=hmo.v1 v hver
  subst hv
  by_cases hk':k∈st.kept
  · have hu:st.uses+1 < W64:=by
     have:st.uses≤US M Q st:=by rw [us_eq];omega
     omega
    obtain ⟨b1,b2,b3,b4,b5,b6,b7⟩:=hi.use hk' hu
    refine ⟨.ok (),st.use k,by simp [inner,hm.sl,hver,hk'],⟨b1,b2,?_⟩,?_,?_,b7,?_⟩
    · unfold KB;rw [b4,und_kept b4];exact Nat.le_refl _
    · rw [us_eq,us_eq,b5,b3];omega
    · rw [psi_eq,psi_eq,b3,und_kept b4];exact Nat.le_refl _
    · unfold Go.Proofs.YthibodlojlkppaaGreatDoor.actB;rw [b6 m hm.sl];exact hm.act
  · exact key hk' (by simp [inner,hm.sl,hver,hk'])
theorem leave_ok {st st':St V} {k:K} {m0 m:Memo V} (h0:st.sl k=some m0) (ha0:m0.act=false) (h:PostK F a U k st st') (hm:st'.sl k=some m):Pst F a U M Q st (st'.leave k)∧Psi U (st'.leave k)=Psi U st'∧US M Q (st'.leave k)=US M Q st'∧(Last st' k→Last (st'.leave k) k):=by
 have e:st'.leave k=st'.put k { m with act:=false }:=by simp [St.leave,hm]
 have hmo:=h.inv.mem k m hm
 have hi:Inv F a (st'.put k { m with act:=false }):=h.inv.put hm ⟨hmo.v0,hmo.v1,hmo.v2,hmo.us⟩ rfl
 rw [e]
 refine ⟨⟨hi,⟨h.mono.rev,h.mono.files,fun j n hj => ?_,fun j _ hj n hn => ?_,h.mono.kept⟩,h.kb⟩,rfl,rfl,?_⟩
 · by_cases hjk:j=k
   · subst hjk
     rw [h0] at hj;cases hj
     exact ⟨_,by simp [St.put];rfl,fun _=>⟨ha0.symm,fun x=>by rw [ha0] at x;cases x⟩⟩
   · obtain ⟨n',e1,f1⟩:=h.mono.slot j n hj
     exact ⟨n',by simp [St.put,hjk,e1],fun _=>f1 hjk⟩
 · by_cases hjk:j=k
   · subst hjk;rw [h0] at hj;cases hj
   · simp [St.put,hjk] at hn
     exact h.mono.new j hjk hj n hn
 · rintro ⟨m1,e1,e2,e3,e4,e5⟩
   rw [hm] at e1;cases e1
   refine ⟨{ m with act:=false },by simp [St.put],e2,e3,e4,fun j n hj hn => ?_⟩
   simp [St.put,hj] at hn
   exact e5 j n hj hn
theorem settle_ok {n:Nat} {E:Eng V} (hE:EngOk wp F a U M Q n E) (hS:Spec wp lp F a) (hU:Uni wp F a U Q) (hM:M≤BIG):EngOk wp F a U M Q (n+1) (settleM wp lp E):=by
 intro k st hP hk hex hR hI
 obtain ⟨m,hm⟩:=hex
 cases ha:m.act with
 | true =>
  have hact:actB st k=true:=by unfold actB;rw [hm];exact ha
  have h7:k.kind=7:=by
   rcases hR k hact with h1 | h1
   · omega
   · exact h1.1
  exact ⟨.cyc k,st,by simp [settleM,hm,ha,h7],Pst.refl hP.inv,by omega,by omega,h7,h7,hact, .here k⟩
 | false =>
  have hact:actB st k=false:=by unfold actB;rw [hm];exact ha
  have hmo:=hP.inv.mem k m hm
  have hi1:Inv F a (st.put k { m with act:=true }):=hP.inv.put hm ⟨hmo.v0,hmo.v1,hmo.v2,hmo.us⟩ rfl
  have hm1:Still k { m with act:=true } (st.put k { m with act:=true }):=⟨by simp [St.put],rfl⟩
  have hmono1:Mono (· = k) st (st.put k { m with act:=true }):=Mono.put
  have hIna:Ina U (st.put k { m with act:=true })+1≤Ina U st:=by
   refine countP_lt U (fun j _ hj => ?_) k hk (by simp [actB,St.put]) (by simp [hact])
   by_cases hjk:j=k
   · subst hjk;simp [hact]
   · rw [actB_put hjk] at hj;exact hj
  have hPsi:Psi U (st.put k { m with act:=true })=Psi U st:=rfl
  have hUS:US M Q (st.put k { m with act:=true })=US M Q st:=rfl
  have hRI:RankIn (st.put k { m with act:=true }) k:=fun c hc=>by
   by_cases hck:c=k
   · exact .inl hck
   · rw [actB_put hck] at hc;exact .inr (hR c hc)
  obtain ⟨out,st2,e,hpo,hu,hout⟩:=inner_ok (st:=st.put k { m with act:=true }) hE hk hS hU hM hi1 (by rw [hPsi];have:=hP.psi;omega) hP.kb hP.us hm1 hRI (by omega)
  have hpo1:PostK F a U k st st2:=⟨hpo.inv,hmono1.trans hpo.mono,hpo.kb⟩
  rw [hUS] at hu
  cases out with
  | ok r =>
   obtain ⟨a1,a3,a4⟩:=hout
   obtain ⟨m2,hm2,_⟩:=id a3
   obtain ⟨b1,b2,b3,b4⟩:=leave_ok (M:=M) (Q:=Q) hm ha hpo1 hm2
   exact ⟨.ok (),st2.leave k,by simp [settleM,hm,ha,e],b1,by rw [b3];omega,by rw [b2];omega,b4 a3⟩
  | error c =>
   obtain ⟨c0,c8,cu,c1,c2,c3,c4,j,c5,c6⟩:=hout
   rw [hUS] at cu
   by_cases hck:c=k
   · subst hck
     have hl:st2.kept.length < BIG:=by have h1:=hpo1.kb;have h2:=hP.kb;unfold KB at h1 h2;omega
     have hu2:st2.uses+1 < W64:=by
      have h1:st2.uses≤US M Q st2:=by rw [us_eq];omega
      have h2:=hP.us
      omega
     obtain ⟨b1,b2,b3,b4⟩:=ans_ok hpo1.inv hk c0.sl (v:=lp) (hS.cyc c j c5 c6).symm c8
     have hpo2:=hpo1.trans b1
     obtain ⟨d1,d2,d3,d4⟩:=leave_ok (M:=M) (Q:=Q) (m:={ ansM st2 { m with act:=true } lp with used:=st2.uses+1 }) hm ha hpo2 (by simp [ansS,St.put])
     refine ⟨.ok (),_,by simp [settleM,hm,ha,e,answer_eq c0.sl hl c8 hu2],d1,?_,?_,d4 b2⟩
     · rw [d3,us_eq,us_eq]
       show st2.uses+1+Q * (M - st2.began.length)≤_
       rw [us_eq,us_eq] at cu
       omega
     rw [d2]
     have h7:(1+U.length) * (Und U (ansS st2 c { m with act:=true } lp)+1)≤(1+U.length) * Und U st2:=Nat.mul_le_mul_left _ b3
     have h8:Ina U st≤U.length:=List.countP_le_length
     rw [Nat.mul_add] at h7
     rw [psi_eq] at c1 ⊢
     rw [psi_eq]
     rw [hPsi,psi_eq] at c1
     show st2.began.length+_≤_
     omega
   · obtain ⟨b1,b2,b3,b4⟩:=leave_ok (M:=M) (Q:=Q) hm ha hpo1 c0.sl
     refine ⟨.cyc c,st2.leave k,by simp [settleM,hm,ha,e,hck,c2],b1,by rw [b3];omega,by rw [b2];omega,c2,c3,?_, .step c5 c6⟩
     rw [actB_put hck] at c4
     exact c4
theorem eng_ok (hS:Spec wp lp F a) (hU:Uni wp F a U Q) (hM:M≤BIG):∀ n,EngOk wp F a U M Q n (engM wp lp n)
 | 0=>fun _ _ _ _ _ _ h=>by omega
 | n+1=>settle_ok (eng_ok hS hU hM n) hS hU hM
end
end Go.Proofs.YthibodlojlkppaaGreatDoor
namespace Go.Proofs.YthibodlojlkppaaGreatDoor
open Go.RowKit
variable [DecidableEq K] [LawfulBEq Lk]
def toksF (F:Txt) (f:ByteArray):List Tok:=lexAll ((F f).getD nob)
def treeF (F:Txt) (f:ByteArray):List Itx × Option Nat:=treeX (toksF F f)
def expF (F:Txt) (f:ByteArray):List ByteArray:=expX (treeF F f).1
def usedF (F:Txt) (nm:ByteArray):List ByteArray→ByteArray→ByteArray
 | [],found=>found
 | f :: fs,found=>if memB (expF F f) nm then usedF F nm fs (if eqB found none_ then f else two_) else usedF F nm fs found
def findF (F:Txt) (f nm:ByteArray):ByteArray :=
 match namedX nm (treeF F f).1 with
 | []=>usedF F nm (usesX (treeF F f).1 []) none_
 | [_]=>f
 | _=>two_
def saidF (F:Txt) (f nm:ByteArray):ByteArray :=
 if fileB (findF F f nm) then match namedX nm (treeF F (findF F f nm)).1 with | [i]=>i.typ | _=>nob else nob
def typesF (F:Txt) (f:ByteArray):List ByteArray→(ByteArray→ByteArray)→ByteArray→ByteArray
 | [],M=>M
 | n :: ns,M=>typesF F f ns fun x=>if x=n then saidF F f n else M x
def typeF (F:Txt) (f nm:ByteArray):ByteArray :=
 match namedX nm (treeF F f).1 with
 | [i]=>match i.ex with
  | none=>bad_
  | some e=>if eqB (typeX (typesF F f (namesX e []) fun _=>nob) e) i.typ then i.typ else bad_
 | _=>none_
def valuesF (F:Txt) (v:ByteArray→ByteArray→ByteArray) (f:ByteArray):List ByteArray→ByteArray→(ByteArray→Int)→ByteArray × (ByteArray→Int)
 | [],fault,M=>(fault,M)
 | n :: ns,fault,M=>valuesF F v f ns (worse fault (v (findF F f n) n)) fun x=>if x=n then readW (v (findF F f n) n) else M x
def exprF (F:Txt) (f nm:ByteArray):Option Ex :=
 if eqB (typeF F f nm) none_ || eqB (typeF F f nm) bad_ then none else
  match namedX nm (treeF F f).1 with
  | []=>none
  | i :: _=>i.ex
def valueF (F:Txt) (v:ByteArray→ByteArray→ByteArray) (f nm:ByteArray):ByteArray :=
 match exprF F f nm with
 | none=>typeF F f nm
 | some e=>valueEnd e (typeF F f nm) (valuesF F v f (namesX e []) nob fun _=>0).1 (valuesF F v f (namesX e []) nob fun _=>0).2
def wrongF (F:Txt) (v:ByteArray→ByteArray→ByteArray) (f:ByteArray) (its:List Itx) (i:Itx):ByteArray :=
 if i.kind == 0 then (if (F i.name).isSome then nob else unk_)
 else if 1 < (namedX i.name its).length then twice_
 else if eqB (typeF F f i.name) bad_ then type_ else worse nob (v f i.name)
def tellF (toks:List Tok) (num:Nat) (word out:ByteArray):ByteArray :=
 if eqB word nob then out else match toks[num]? with | none=>out | some t=>tellT out t word
def itemsF (F:Txt) (v:ByteArray→ByteArray→ByteArray) (f:ByteArray) (toks:List Tok) (its:List Itx):List Itx→ByteArray→ByteArray
 | [],out=>out
 | i :: r,out=>itemsF F v f toks its r (tellF toks i.num (wrongF F v f its i) out)
def reportF (F:Txt) (v:ByteArray→ByteArray→ByteArray) (f:ByteArray):ByteArray :=
 match (treeF F f).2 with
 | none=>itemsF F v f (toksF F f) (treeF F f).1 (treeF F f).1 nob
 | some b=>tellF (toksF F f) b syn_ (itemsF F v f (toksF F f) (treeF F f).1 (treeF F f).1 nob)
def ansF (F:Txt) (v:ByteArray→ByteArray→ByteArray) (k:K):V :=
 if k.kind=1 then .s (if (F k.file).isSome then yes_ else no_)
 else if k.kind=2 then .t (toksF F k.file)
 else if k.kind=3 then .r (treeF F k.file).1 (treeF F k.file).2
 else if k.kind=4 then .x (expF F k.file)
 else if k.kind=5 then .s (findF F k.file k.name)
 else if k.kind=6 then .s (typeF F k.file k.name)
 else if k.kind=7 then .s (v k.file k.name)
 else .s (reportF F v k.file)
section
variable {F:Txt} {v:ByteArray→ByteArray→ByteArray}
def qUsed (fs:List ByteArray):List Lk:=fs.map fun f => .slot ⟨4,f,nob⟩
def qSaid (F:Txt) (f nm:ByteArray):List Lk := .slot ⟨5,f,nm⟩ :: (if fileB (findF F f nm) then [.slot ⟨3,findF F f nm,nob⟩] else [])
def qTypes (F:Txt) (f:ByteArray) (ns:List ByteArray):List Lk:=ns.flatMap (qSaid F f)
def qValues (F:Txt) (f:ByteArray) (ns:List ByteArray):List Lk:=ns.flatMap fun n => [.slot ⟨5,f,n⟩, .slot ⟨7,findF F f n,n⟩]
def qWrong (F:Txt) (f:ByteArray) (its:List Itx) (i:Itx):List Lk :=
 if i.kind == 0 then [.slot ⟨1,i.name,nob⟩] else if 1 < (namedX i.name its).length then [] else .slot ⟨6,f,i.name⟩ :: (if eqB (typeF F f i.name) bad_ then [] else [.slot ⟨7,f,i.name⟩])
def qItems (F:Txt) (f:ByteArray) (its:List Itx) (l:List Itx):List Lk:=l.flatMap (qWrong F f its)
theorem ev_used (nm:ByteArray) (c:ByteArray→Prog V):∀ (fs:List ByteArray) (found:ByteArray),evalP F (ansF F v) (usedP nm c fs found)=evalP F (ansF F v) (c (usedF F nm fs found))∧qs F (ansF F v) (usedP nm c fs found)=qUsed fs ++ qs F (ansF F v) (c (usedF F nm fs found))
 | [],found=>⟨rfl,rfl⟩
 | f :: fs,found=>by
  simp only [usedP,getX,evalP,qs,usedF,qUsed,List.map_cons]
  have e:ansF F v ⟨4,f,nob⟩ = .x (expF F f):=rfl
  rw [e]
  simp only
  split
  · obtain ⟨a,b⟩:=ev_used nm c fs (if eqB found none_ then f else two_)
    exact ⟨a,by rw [b];rfl⟩
  · obtain ⟨a,b⟩:=ev_used nm c fs found
    exact ⟨a,by rw [b];rfl⟩
theorem ev_said (f nm:ByteArray) (c:ByteArray→Prog V):evalP F (ansF F v) (saidP f nm c)=evalP F (ansF F v) (c (saidF F f nm))∧qs F (ansF F v) (saidP f nm c)=qSaid F f nm ++ qs F (ansF F v) (c (saidF F f nm)):=by
 simp only [saidP,getS,evalP,qs,saidF,qSaid]
 have e:ansF F v ⟨5,f,nm⟩ = .s (findF F f nm):=rfl
 rw [e]
 simp only
 split
 · simp only [getR,evalP,qs]
   have e:ansF F v ⟨3,findF F f nm,nob⟩ = .r (treeF F (findF F f nm)).1 (treeF F (findF F f nm)).2:=rfl
   rw [e]
   simp only
   cases namedX nm (treeF F (findF F f nm)).1 with
   | nil=>exact ⟨rfl,rfl⟩
   | cons i l =>
    cases l with
    | nil=>exact ⟨rfl,rfl⟩
    | cons j l=>exact ⟨rfl,rfl⟩
 · exact ⟨rfl,rfl⟩
theorem ev_types (f:ByteArray) (c:(ByteArray→ByteArray)→Prog V):∀ (ns:List ByteArray) (M:ByteArray→ByteArray),evalP F (ansF F v) (typesP f c ns M)=evalP F (ansF F v) (c (typesF F f ns M))∧qs F (ansF F v) (typesP f c ns M)=qTypes F f ns ++ qs F (ansF F v) (c (typesF F f ns M))
 | [],M=>⟨rfl,rfl⟩
 | n :: ns,M=>by
  simp only [typesP,typesF,qTypes,List.flatMap_cons]
  obtain ⟨a,b⟩:=ev_said (F:=F) (v:=v) f n fun t=>typesP f c ns fun x=>if x=n then t else M x
  obtain ⟨a2,b2⟩:=ev_types f c ns fun x=>if x=n then saidF F f n else M x
  refine ⟨a.trans a2,?_⟩
  rw [b,b2,List.append_assoc]
  rfl
theorem ev_values (hv:∀ f n,valOk (v f n)=true) (f:ByteArray) (c:ByteArray→(ByteArray→Int)→Prog V):∀ (ns:List ByteArray) (fault:ByteArray) (M:ByteArray→Int),evalP F (ansF F v) (valuesP f c ns fault M)=evalP F (ansF F v) (c (valuesF F v f ns fault M).1 (valuesF F v f ns fault M).2)∧qs F (ansF F v) (valuesP f c ns fault M)=qValues F f ns ++ qs F (ansF F v) (c (valuesF F v f ns fault M).1 (valuesF F v f ns fault M).2)
 | [],fault,M=>⟨rfl,rfl⟩
 | n :: ns,fault,M=>by
  simp only [valuesP,getS,evalP,qs,valuesF,qValues,List.flatMap_cons]
  have e:ansF F v ⟨5,f,n⟩ = .s (findF F f n):=rfl
  rw [e]
  simp only [evalP,qs]
  have e:ansF F v ⟨7,findF F f n,n⟩ = .s (v (findF F f n) n):=rfl
  rw [e]
  simp only [hv,if_true]
  obtain ⟨a,b⟩:=ev_values hv f c ns (worse fault (v (findF F f n) n)) fun x=>if x=n then readW (v (findF F f n) n) else M x
  exact ⟨a,by rw [b];rfl⟩
theorem ev_wrong (f:ByteArray) (its:List Itx) (i:Itx) (c:ByteArray→Prog V):evalP F (ansF F v) (wrongP f its i c)=evalP F (ansF F v) (c (wrongF F v f its i))∧qs F (ansF F v) (wrongP f its i c)=qWrong F f its i ++ qs F (ansF F v) (c (wrongF F v f its i)):=by
 unfold wrongP wrongF qWrong
 by_cases h1:(i.kind == 0)=true
 · simp only [h1,if_true,getS,evalP,qs]
   have e:ansF F v ⟨1,i.name,nob⟩ = .s (if (F i.name).isSome then yes_ else no_):=rfl
   rw [e]
   simp only
   cases h:(F i.name).isSome
   · have:eqB no_ yes_=false:=eqB_no (by decide)
     simp [this]
   · have:eqB yes_ yes_=true:=eqB_is.2 rfl
     simp [this]
 · simp only [h1,if_false,Bool.false_eq_true]
   split
   · exact ⟨rfl,rfl⟩
   · simp only [getS,evalP,qs]
     have e:ansF F v ⟨6,f,i.name⟩ = .s (typeF F f i.name):=rfl
     rw [e]
     simp only
     split
     · exact ⟨rfl,rfl⟩
     · simp only [evalP,qs]
       exact ⟨rfl,rfl⟩
theorem ev_tell {toks:List Tok} {num:Nat} (hn:num < toks.length) (word out:ByteArray) (c:ByteArray→Prog V):tellP toks num word out c=c (tellF toks num word out):=by
 unfold tellP tellF
 split
 · rfl
 · rw [List.getElem?_eq_getElem hn]
theorem ev_items (f:ByteArray) (toks:List Tok) (its:List Itx) (c:ByteArray→Prog V):∀ (l:List Itx) (out:ByteArray),(∀ i∈l,i.num < toks.length)→evalP F (ansF F v) (itemsP f toks its c l out)=evalP F (ansF F v) (c (itemsF F v f toks its l out))∧qs F (ansF F v) (itemsP f toks its c l out)=qItems F f its l ++ qs F (ansF F v) (c (itemsF F v f toks its l out))
 | [],out,_=>⟨rfl,rfl⟩
 | i :: l,out,h=>by
  simp only [itemsP,itemsF,qItems,List.flatMap_cons]
  obtain ⟨a,b⟩:=ev_wrong (F:=F) (v:=v) f its i fun word=>tellP toks i.num word out fun out'=>itemsP f toks its c l out'
  obtain ⟨a2,b2⟩:=ev_items f toks its c l (tellF toks i.num (wrongF F v f its i) out) fun j hj=>h j (List.mem_cons_of_mem _ hj)
  rw [ev_tell (h i (by simp))] at a b
  refine ⟨a.trans a2,?_⟩
  rw [b,b2,List.append_assoc]
  rfl
def lookF (F:Txt) (k:K):List Lk :=
 if k.kind=1 then [.src k.file]
 else if k.kind=2 then [.src k.file]
 else if k.kind=3 then [.slot ⟨2,k.file,nob⟩]
 else if k.kind=4 then [.slot ⟨3,k.file,nob⟩]
 else if k.kind=5 then .slot ⟨3,k.file,nob⟩ :: (match namedX k.name (treeF F k.file).1 with | []=>qUsed (usesX (treeF F k.file).1 []) | _ => [])
 else if k.kind=6 then .slot ⟨3,k.file,nob⟩ :: (match namedX k.name (treeF F k.file).1 with | [i]=>(match i.ex with | none => [] | some e=>qTypes F k.file (namesX e [])) | _ => [])
 else if k.kind=7 then .slot ⟨6,k.file,k.name⟩ :: (if eqB (typeF F k.file k.name) none_ || eqB (typeF F k.file k.name) bad_ then [] else .slot ⟨3,k.file,nob⟩ :: (match exprF F k.file k.name with | none => [] | some e=>qValues F k.file (namesX e [])))
 else .slot ⟨2,k.file,nob⟩ :: .slot ⟨3,k.file,nob⟩ :: qItems F k.file (treeF F k.file).1 (treeF F k.file).1
theorem mem_named {nm:ByteArray} {its:List Itx} {i:Itx} (h:i∈namedX nm its):i∈its∧i.kind≠0∧i.name=nm:=by
 unfold namedX at h
 rw [List.mem_filter] at h
 obtain ⟨h1,h2⟩:=h
 unfold isNX at h2
 simp only [Bool.and_eq_true,Bool.not_eq_true',beq_eq_false_iff_ne] at h2
 exact ⟨h1,h2.1,toList_inj.1 h2.2⟩
theorem named_ex {f nm:ByteArray} {i:Itx} (h:i∈namedX nm (treeF F f).1):∃ e,i.ex=some e:=by
 obtain ⟨h1,h2,_⟩:=mem_named h
 obtain ⟨_,_,e,he,_⟩:=((treeX_ok _).1 i h1).let' h2
 exact ⟨e,he⟩
theorem type_named {f nm:ByteArray} (h:(eqB (typeF F f nm) none_ || eqB (typeF F f nm) bad_)=false):∃ i e,namedX nm (treeF F f).1 = [i]∧i.ex=some e∧exprF F f nm=some e:=by
 have h0:=h
 unfold typeF at h
 cases hn:namedX nm (treeF F f).1 with
 | nil =>
  rw [hn] at h
  have:eqB none_ none_=true:=eqB_is.2 rfl
  simp [this] at h
 | cons i l =>
  cases l with
  | cons j l =>
   rw [hn] at h
   have:eqB none_ none_=true:=eqB_is.2 rfl
   simp [this] at h
  | nil =>
   obtain ⟨e,he⟩:=named_ex (F:=F) (f:=f) (nm:=nm) (i:=i) (by rw [hn];simp)
   exact ⟨i,e,rfl,he,by simp [exprF,h0,hn,he]⟩
end
end Go.Proofs.YthibodlojlkppaaGreatDoor

import Derived.Test.YthibodlojlkppaaGreatDoorZ02
import Derived.DeepKeys3
import Derived.Laws.StructEq
set_option linter.all false
set_option maxRecDepth 100000
set_option maxHeartbeats 40000000
namespace Go.Proofs.YthibodlojlkppaaGreatDoor
open Go.RowKit
variable [DecidableEq K] [LawfulBEq Lk]
theorem ENGp.sess{st st':St V}{L:aM}{lp:Option K}{bs:Nat}{fm fm' q sm bg bg' kv:Value}{arr:List K}{w w':World}(h:ENGp st L lp bs fm q sm bg kv arr w)(hb:∀b:Nat,b≠bs->w'.heap[b]? = w.heap[b]?)(hs:w.heap.size<=w'.heap.size)
 (hS:w'.heap[bs]? = some (.cells #[fm',.int .i64 st'.rev,q,sm,bg',kv,.int .u64 st'.uses] 66))
 (h1:st'.src=st.src) (h2:st'.sl=st.sl) (h3:st'.kept=st.kept) (hbg:oP L.own w' 99 3 bg' st'.began.length (st'.began.flatMap gC)):ENGp st' L lp bs fm' q sm bg' kv arr w':=by
 have hcs:∀(b:Nat) (cs:Array Value) (T:TypeId),w.heap[b]? = some (.cells cs T)->T≠66->w'.heap[b]? = some (.cells cs T):=fun b cs T hbo hT=>by
  rw[hb b fun e=>?_]
  . exact hbo
  . rw[e,h.s] at hbo;injection hbo with hbo;injection hbo with _ hbo;exact hT hbo.symm
 have hmp:∀(b:Nat) (es:Array MapEntry) (n:Nat),w.heap[b]? = some (.map es n)->w'.heap[b]? = some (.map es n):=fun b es n hbo=>by
  rw[hb b fun e=>?_]
  . exact hbo
  . rw[e,h.s] at hbo;injection hbo with hbo;cases hbo
 have hout:∀(b:Nat) (o:Obj),¬L.own b->w.heap[b]? = some o->w'.heap[b]? = some o:=fun b o hn hbo=>by
  rw[hb b fun e=>hn (e ▸ h.bo)];exact hbo
 refine⟨hS,h.bo,fun b hbo=>Nat.lt_of_lt_of_le (h.olt b hbo) hs,by rw[h1];exact h.sr.keep hmp,by rw[h1];exact fun f c hf=>⟨(h.srb f c hf).1,hcs _ _ _ (h.srb f c hf).2 (by decide)⟩,by rw[h1];exact h.sri,h.qm,by rw[h2];exact h.sm.keep hmp,hbg,h.kv.keep fun b cs hbo=>hcs b cs _ hbo (by decide),by rw[h3];exact h.perm,h.nd,by rw[h3];exact h.kl,by rw[h2];exact h.ex,fun j n hj=>?_⟩;rw[h2] at hj;have hc:=h.cell j n hj;obtain⟨lk,vs,a,d⟩:=hc.ex;exact⟨⟨lk,vs,hcs _ _ _ a fU.1,d.keep hout⟩,hc.own⟩
def St.used(st:St V)(k:K)(m:bU V):St V:={st.put k {m with used:=(st.uses+1) % j9} with uses:=(st.uses+1) % j9}
theorem ENGp.used{st:St V}{L:aM}{lp:Option K}{bs:Nat}{fm q sm bg kv:Value}{arr:List K}{w:World}(h:ENGp st L lp bs fm q sm bg kv arr w){k:K}{m:bU V}(hk:st.sl k=some m) :
 ENGp (st.used k m) L lp bs fm q sm bg kv arr ((w.setCell ⟨bs,6,none⟩ (.int .u64 ((st.uses+1) % j9:Nat))).setCell ⟨L.bk k,11,none⟩ (.int .u64 ((st.uses+1) % j9:Nat))):=by
 have h1:ENGp {st with uses:=(st.uses+1) % j9} L lp bs fm q sm bg kv arr (w.setCell ⟨bs,6,none⟩ (.int .u64 ((st.uses+1) % j9:Nat))):=by
  refine h.sess (st':={st with uses:=(st.uses+1) % j9}) (fun b hb=>aD hb _) (by simp) (aH h.s _) rfl rfl rfl (h.bg.keep fun b cs hb=>?_);rw[aD (fun e=>?_)]
  . exact hb
  . rw[e,h.s] at hb;injection hb with hb;injection hb with _ hb;exact absurd hb (by decide)
 have hc:=h1.cell k m hk;obtain⟨lk,vs,a,c⟩:=hc.ex;have:=a.set 11 (.int .u64 ((st.uses+1) % j9:Nat))
 exact h1.slot (m':={m with used:=(st.uses+1) % j9}) hk (fun b hb=>aD hb _) (by simp) ⟨lk,vs,this,c⟩ fun _ _=>rfl
theorem KK(n:Nat):IntKind.u64.wrap ((n:Int)+1)=(((n+1) % j9:Nat):Int):=by
 rw[IntKind.wrap_u64];unfold j9;omega
theorem DF{st:St V}{L:aM}{lp:Option K}{bs:Nat}{fm q sm bg kv:Value}{arr:List K}{w:World}(h:ENGp st L lp bs fm q sm bg kv arr w){k:K}{m:bU V}(hk:st.sl k=some m)(v v':Value):FR L.own w ((w.setCell ⟨bs,6,none⟩ v).setCell ⟨L.bk k,11,none⟩ v'):=
 ((FR.refl L.own w).setCell ⟨bs,6,none⟩ (.inl h.bo) v).setCell ⟨L.bk k,11,none⟩ (.inl (h.cell k m hk).own) v'
theorem Gf{st:St V}{L:aM}{lp:Option K}{bs kb:Nat}{fm q sm bg kv:Value}{arr arr':List K}{w w':World}(h:ENGp st L lp bs fm q sm bg kv arr w)(hkb:L.own kb)(hp:PF L kb arr' w w')(hm:∀k,k∈arr'->k∈arr):FR L.own w w':=
 ⟨hp.os,hp.tape,hp.output,hp.size,fun b hb hn=>hp.far b hb (fun e=>hn (e ▸ hkb)) fun k hk e=>by
  obtain⟨m,hmm⟩:=Option.ne_none_iff_exists'.1 (h.ex k (hm k hk));exact hn (e ▸ (h.cell k m hmm).own)⟩
theorem Cr{st:St V}{k:K}{m:bU V}(hk:st.sl k=some m)(hin:k∈st.kept):st.use k=st.used k m:=by
 simp[St.use,St.used,hk,hin,St.put]
theorem DG{st:St V}{k:K}{m:bU V}(hk:st.sl k=some m)(x:K)(hx:x≠k):bH (st.used k m) x=bH st x:=by
 simp[bH,St.used,St.put,hx]
theorem Ju{st:St V}{L:aM}{lp:Option K}{bs:Nat}{fm q sm bg kv:Value}{arr:List K}{w:World}(h:cV st L lp bs fm q sm bg kv arr w){k:K}{m:bU V}(hk:st.sl k=some m)(hin:k∈arr) :
 Calls Tryz.prog 118 #[aY L k] w fun e w'=>e = .returned (.tuple #[])/\∃kv' arr',cV (st.use k) L lp bs fm q sm bg kv' arr' w'/\FR L.own w w':=by
 have hu:=h.toENGp.used hk;obtain⟨kb,c,hkv,hhp,_⟩:=hu.hpx (List.ne_nil_of_mem hin);obtain⟨lk,vs,s1,_⟩:=(h.cell k m hk).ex;have c6:w.cell? ⟨bs,6,none⟩=some (.int .u64 st.uses):=aA (i:=6) h.s;have k6:w.frozen? ⟨bs,6,none⟩=false:=aE h.s;have d0:=s1.cell (i:=0) rfl;have d10:=s1.cell (i:=10) rfl;have d11:=s1.cell (i:=11) rfl;have g11:=s1.fr 11;have hwu:=KK st.uses;have hkm:k∈st.kept:=h.perm.mem_iff.1 hin;have hile:=List.idxOf_lt_length_iff.2 hin;obtain⟨F,hM⟩:=mS k;have m1:=hM.common;have m2:=hM.ncommon;have m3:=hM.isDropped;have m4:=hM.nisDropped;have HHP:=hid hhp;have HIL:=hid hile;obtain⟨lk2,vs2,s2,_⟩:=(hu.cell k {m with used:=(st.uses+1) % j9} (by simp[St.used,St.put])).ex;have HK:=hid hkm;have HEQ:=hid (Cr hk hkm);have HFR:=hid (DF h.toENGp hk (.int .u64 ((st.uses+1) % j9:Nat)) (.int .u64 ((st.uses+1) % j9:Nat)));have HUS:=hid (DG hk);have HU:=hid hu;have HH:=hid h;have HIN:=hid hin;have HKV:=hid hkv;have HS2:=hid s2;have HPL:=hid (sQ hin);unfold aY at *;clear h hu hkv hhp hkm hk s1 s2 hin hM;obtain⟨n,hn⟩:∃n,n=(st.uses+1) % j9:=⟨_,rfl⟩
 rw[<-hn] at hwu HHP HU HS2 HFR;clear hn;go_enter Tryz.func118,Tryz.ntmps118;go_wp2_with fail
 refine (eQ (L.bk k) _).mono ?_;rintro e w1⟨rfl,rfl⟩;clear d10;go_wp2_with fail
 generalize (w1.setCell ⟨bs,6,none⟩ (.int .u64 (n:Nat))).setCell ⟨L.bk k,11,none⟩ (.int .u64 (n:Nat))=W at HHP HFR HU HS2 ⊢;clear c6 k6 d0 d11 g11 hwu m1 m2;have e10:W.cell? ⟨L.bk k,10,none⟩=some (.int .i64 (arr.idxOf k:Nat)):=by rw[<-HPL.out];exact HS2.out.cell (i:=10) rfl
 have e0:=HS2.out.cell (i:=0) rfl;refine (iH (L.bk k) _ _ e10).mono ?_;rintro e w2⟨rfl,rfl⟩;rw[show (((arr.idxOf k:Nat):Int) == -1)=false from by rw[beq_eq_false_iff_ne];omega];have HFX:Hid (∀wx:World,Below w2.heap.size w2 wx->Calls Tryz.prog 138 #[gQ bs,.int .i64 (arr.idxOf k:Nat)] wx fun e w'=>e = .returned (.tuple #[])/\HT bs kb c L (bH (st.used k m)) arr w2 (F8 (bH (st.used k m)) arr (arr.idxOf k)) w'):=hid fun wx hb=>(wT (HHP.out.below hb) (arr.idxOf k) HIL.out).mono fun e w' ⟨a,b⟩=>⟨a,b.hp,(PF.of_below hb).trans b.pf fun _=>Iff.rfl,b.perm⟩
 unfold gQ at HFX;have e00:w2.drew.cell? ⟨L.bk k,0,none⟩=some (.pointer (some ⟨bs,1,none⟩)):=e0;have e11:w2.drew.cell? ⟨L.bk k,10,none⟩=some (.int .i64 (arr.idxOf k:Nat)):=e10;go_wp2_with fail
 go_region_with (go_at_call 138;go_must (refine (HFX.out _ (by first|exact Below.refl _ _|exact aJ _)).mono ?_;rintro e w3⟨rfl,hh⟩;have HT3:=hid hh;clear hh))
 all_goals
  go_wp2;go_end0
  have hu2:=HU.out;rw[HKV.out] at hu2;have h3:=hu2.heaped HT3.out;have h4:=K5 (used:=bH st) (used':=bH (st.used k m)) HH.out.heap HH.out.nd (zL HIN.out) HUS.out;rw[HEQ.out];exact⟨rfl,_,_,⟨h3,by rw[HT3.out.perm.length_eq];exact h4⟩,HFR.out.trans (Gf hu2 (hu2.kv.2 kb rfl) HT3.out.pf fun _ x=>x) fun i x=>.inl x⟩
def aM.arr(L:aM)(v:Value):aM:={L with own:=fun b=>L.own b\/v.ownBlock=some b}
theorem El(L:aM)(v:Value):aY (L.arr v)=aY L:=rfl
theorem DH{arr:List K}{k j:K}(hj:j∈arr\/j≠k):kA (arr ++ [k]) j=kA arr j:=by
 unfold kA;by_cases h:j∈arr
 . simp[h,List.idxOf_append]
 . have:j≠k:=hj.resolve_left h
   simp[h,this]
theorem Gg{arr:List K}{k:K}(h:k∉arr):kA (arr ++ [k]) k=(arr.length:Nat):=by
 simp[kA,List.idxOf_append,h]
theorem ENGp.pushed{st:St V}{L:aM}{lp:Option K}{bs:Nat}{fm q sm bg kv:Value}{arr:List K}{w w':World}(h:ENGp st L lp bs fm q sm bg kv arr w){k:K}{m:bU V}(hk:st.sl k=some m)(hin:k∉arr)(hlen:st.kept.length<cD)
 (hP:uC w w' bs 0 (L.bk k) arr.length fm (.int .i64 st.rev) q sm bg (.int .u64 st.uses) kv (arr.map (aY L)) (aY L k)) :
 ∃v',ENGp {st with kept:=st.kept ++ [k]} (L.arr v') lp bs fm q sm bg v' (arr ++ [k]) w'/\FR L.own w w'/\(∀b,(L.arr v').own b->L.own b\/w.heap.size<=b):=by
 obtain⟨v',hS,hown,hv⟩:=hP.sess;obtain⟨how,hin'⟩:=h.kv;have hkc:=h.cell k m hk;obtain⟨lk0,vs0,sb0,vc0⟩:=hkc.ex;have hT:=fU (k:=k);have hfr:FR L.own w w':=⟨hP.env.1,hP.env.2.1,hP.env.2.2,hP.size,fun b hb hn=>hP.far b hb (fun e=>hn (e ▸ h.bo)) (fun e=>hn (e ▸ hkc.own)) fun e=>hn (hin' b e)⟩
 have hext:∀b,(L.arr v').own b->L.own b\/w.heap.size<=b:=fun b hb=>by
  rcases hb with hb|hb
  . exact .inl hb
  . rcases hv b hb with h1|h1
    . exact .inl (hin' b h1)
    . exact .inr h1
 have hcs:∀(b:Nat) (cs:Array Value) (T:TypeId),w.heap[b]? = some (.cells cs T)->T≠66->T≠94->T≠TB k->w'.heap[b]? = some (.cells cs T):=fun b cs T hb h1 h2 h3=>by
  refine (hP.far b (aB hb) (fun e=>?_) (fun e=>?_) fun e=>?_).trans hb
  . rw[e,h.s] at hb;injection hb with hb;injection hb with _ hb;exact h1 hb.symm
  . rw[e,sb0] at hb;injection hb with hb;injection hb with _ hb;exact h3 hb.symm
  . obtain⟨_,⟨e1,_⟩|⟨g,cap,cur,e1,_,e3,_⟩⟩:=how
    . rw[e1] at e;simp[Value.ownBlock] at e
    . rw[e1] at e;simp[Value.ownBlock] at e;subst e
      rw[e3] at hb;injection hb with hb;injection hb with _ hb;exact h2 hb.symm
 have hmp:∀(b:Nat) (es:Array MapEntry) (n:Nat),w.heap[b]? = some (.map es n)->w'.heap[b]? = some (.map es n):=fun b es n hb=>by
  refine (hP.far b (aB hb) (fun e=>?_) (fun e=>?_) fun e=>?_).trans hb
  . rw[e,h.s] at hb;injection hb with hb;cases hb
  . rw[e,sb0] at hb;injection hb with hb;cases hb
  . obtain⟨_,⟨e1,_⟩|⟨g,cap,cur,e1,_,e3,_⟩⟩:=how
    . rw[e1] at e;simp[Value.ownBlock] at e
    . rw[e1] at e;simp[Value.ownBlock] at e;subst e
      rw[e3] at hb;injection hb with hb;cases hb
 refine⟨v',⟨hS,.inl h.bo,fun b hb=>?_,?_,fun f c hf=>⟨.inl (h.srb f c hf).1,hcs _ _ _ (h.srb f c hf).2 (by decide) (by decide) hT.2.1.symm⟩,h.sri,h.qm,?_,⟨(h.bg.keep fun b cs hb=>hcs b cs _ hb (by decide) (by decide) hT.2.2.1.symm).1,fun g hg=>.inl (h.bg.2 g hg)⟩,⟨by simpa[El] using hown,fun g hg=>.inr hg⟩,?_,?_,by simp;omega,fun j hj=>?_,fun j n hj=>?_⟩,hfr,hext⟩
 . rcases hb with hb|hb
   . exact Nat.lt_of_lt_of_le (h.olt b hb) hP.size
   . exact (hown.lt b hb).2
 . rcases h.sr.keep hmp with h1|⟨b,es,n,h1,h2,h3,h4⟩
   . exact .inl h1
   . exact .inr ⟨b,es,n,h1,.inl h2,h3,h4⟩
 . rcases h.sm.keep hmp with h1|⟨b,es,n,h1,h2,h3,h4⟩
   . exact .inl h1
   . exact .inr ⟨b,es,n,h1,.inl h2,h3,h4⟩
 . exact h.perm.append_right _
 . rw[List.nodup_append]
   exact⟨h.nd,by simp,fun a ha b hb=>by simp at hb;subst hb;intro e;exact hin (e ▸ ha)⟩
 . rcases List.mem_append.1 hj with h1|h1
   . exact h.ex j h1
   . simp at h1;subst h1;show st.sl _≠none;rw[hk];simp
 . have hj':st.sl j=some n:=hj
   by_cases hjk:j=k
   . subst hjk
     rw[hk] at hj';cases hj';refine⟨⟨lk0,vs0,?_,vc0.next hfr hext⟩,.inl hkc.own⟩;rw[Gg hin];have:=sb0.set 10 (.int .i64 (arr.length:Nat))
     exact hP.slot.trans this
   . have hc:=h.cell j n hj'
     obtain⟨lk,vs,a,d⟩:=hc.ex;refine⟨⟨lk,vs,?_,d.next hfr hext⟩,.inl hc.own⟩
     . rw[DH (.inr hjk)]
       refine (hP.far _ (aB a) (fun e=>?_) (fun e=>hjk (h.bk_inj (by rw[hj'];simp) (by rw[hk];simp) e)) fun e=>?_).trans a
       . have:=a;rw[SB,e,h.s] at this;injection this with this;injection this with _ this;exact (fU (k:=j)).1 this.symm
       . obtain⟨_,⟨e1,_⟩|⟨g,cap,cur,e1,_,e3,_⟩⟩:=how
         . rw[e1] at e;simp[Value.ownBlock] at e
         . rw[e1] at e;simp[Value.ownBlock] at e
           have:=a;rw[SB,<-e,e3] at this;injection this with this;injection this with _ this;exact (fU (k:=j)).2.2.2 this.symm
theorem o9.arr{bs kb c:Nat}{L:aM}{v':Value}{u:K->Nat}{arr:List K}{w:World}(h:o9 bs kb c (L.arr v') u arr w):o9 bs kb c L u arr w:=⟨h.v,h.own,h.pl,h.nd,h.inj,h.ne,h.kbs,h.len⟩
theorem o9.toArr{bs kb c:Nat}{L:aM}(v':Value){u:K->Nat}{arr:List K}{w:World}(h:o9 bs kb c L u arr w):o9 bs kb c (L.arr v') u arr w:=⟨h.v,h.own,h.pl,h.nd,h.inj,h.ne,h.kbs,h.len⟩
theorem PF.toArr{kb:Nat}{L:aM}(v':Value){arr:List K}{w w':World}(h:PF L kb arr w w'):PF (L.arr v') kb arr w w':=⟨h.os,h.tape,h.output,h.size,h.far,h.slot⟩
theorem HT.toArr{bs kb c:Nat}{L:aM}(v':Value){u:K->Nat}{arr arr':List K}{w w':World}(h:HT bs kb c L u arr w arr' w'):HT bs kb c (L.arr v') u arr w arr' w':=⟨h.hp.toArr v',h.pf.toArr v',h.perm⟩
theorem Cs{st:St V}{k:K}{m:bU V}(hk:st.sl k=some m)(hin:k∉st.kept):st.use k={st.used k m with kept:=st.kept ++ [k]}:=by
 simp[St.use,St.used,hk,hin,St.put]
theorem Jw{used used':K->Nat}{l:List K}{k:K}(h:HN used l l.length)(hne:∀x∈l,used' x=used x):HN used' (tO used' (l.length+1) (l ++ [k]) l.length) (l.length+1):=by
 have hu:∀i,i<l.length->fK used' (l ++ [k]) i=fK used l i:=fun i hi=>by
  unfold fK;rw[List.getElem?_append_left hi,List.getElem?_eq_getElem hi];simp[hne _ (List.getElem_mem hi)]
 have:=DA (used:=used') (l.length+1) (l ++ [k]) l.length (by simp) (by omega) (fun i hi hne2=>by
  simp at hi;have h1:i<l.length:=by omega
  have h2:par i<l.length:=by unfold par;omega
  rw[hu i h1,hu _ h2];exact h i h1) fun c hc hne2 hp=>by
   simp at hc;unfold par at hp;omega
 simpa using this
theorem Jx{st:St V}{L:aM}{lp:Option K}{bs:Nat}{fm q sm bg kv:Value}{arr:List K}{w:World}(h:cV st L lp bs fm q sm bg kv arr w){k:K}{m:bU V}(hk:st.sl k=some m)(hin:k∉arr)(hlen:st.kept.length<cD) :
 Calls Tryz.prog 118 #[aY L k] w fun e w'=>e = .returned (.tuple #[])/\∃v' kv' arr',cV (st.use k) (L.arr v') lp bs fm q sm bg kv' arr' w'/\FR L.own w w'/\(∀b,(L.arr v').own b->L.own b\/w.heap.size<=b):=by
 have hu:=h.toENGp.used hk;obtain⟨lk,vs,s1,_⟩:=(h.cell k m hk).ex;have c6:w.cell? ⟨bs,6,none⟩=some (.int .u64 st.uses):=aA (i:=6) h.s;have k6:w.frozen? ⟨bs,6,none⟩=false:=aE h.s;have d0:=s1.cell (i:=0) rfl;have d10:=s1.cell (i:=10) rfl;have d11:=s1.cell (i:=11) rfl;have g11:=s1.fr 11;have hwu:=KK st.uses;have hkm:k∉st.kept:=fun e=>hin (h.perm.mem_iff.2 e);obtain⟨F,hM⟩:=mS k;have m1:=hM.common;have m2:=hM.ncommon;have m3:=hM.isDropped;have m4:=hM.nisDropped;obtain⟨lk2,vs2,s2,_⟩:=(hu.cell k {m with used:=(st.uses+1) % j9} (by simp[St.used,St.put])).ex;have HEQ:=hid (Cs hk hkm);have HFR:=hid (DF h.toENGp hk (.int .u64 ((st.uses+1) % j9:Nat)) (.int .u64 ((st.uses+1) % j9:Nat)));have HUS:=hid (DG hk);have HU:=hid hu;have HH:=hid h;have HIN:=hid hin;have HLEN:=hid hlen;have HMT:=hid hM;have HS2:=hid s2;have HPL:=hid (show kA arr k = -1 by simp[kA,hin]);have HK:=hid (show (st.used k m).sl k=some {m with used:=(st.uses+1) % j9} by simp[St.used,St.put]);have HSZ:=hid (show ((w.setCell ⟨bs,6,none⟩ (.int .u64 ((st.uses+1) % j9:Nat))).setCell ⟨L.bk k,11,none⟩ (.int .u64 ((st.uses+1) % j9:Nat))).heap.size=w.heap.size by simp);unfold aY at *;clear h hu hkm hk s1 s2 hin hM hlen;obtain⟨n,hn⟩:∃n,n=(st.uses+1) % j9:=⟨_,rfl⟩
 rw[<-hn] at hwu HU HS2 HFR HK HSZ;clear hn;go_enter Tryz.func118,Tryz.ntmps118;go_wp2_with fail
 refine (eQ (L.bk k) _).mono ?_;rintro e w1⟨rfl,rfl⟩;clear d10;go_wp2_with fail
 generalize (w1.setCell ⟨bs,6,none⟩ (.int .u64 (n:Nat))).setCell ⟨L.bk k,11,none⟩ (.int .u64 (n:Nat))=W at HFR HU HS2 HSZ ⊢;clear c6 k6 d0 d11 g11 hwu m1 m2;have e10:W.cell? ⟨L.bk k,10,none⟩=some (.int .i64 (-1)):=by rw[<-HPL.out];exact HS2.out.cell (i:=10) rfl
 have e0:=HS2.out.cell (i:=0) rfl;refine (iH (L.bk k) _ _ e10).mono ?_;rintro e w2⟨rfl,rfl⟩;rw[show ((-1:Int) == -1)=true from rfl];have HPX:Hid (∀w3,uC w2 w3 bs 0 (L.bk k) arr.length fm (.int .i64 st.rev) q sm bg (.int .u64 (st.used k m).uses) kv (arr.map (aY L)) (aY L k)->∃v',ENGp {st.used k m with kept:=st.kept ++ [k]} (L.arr v') lp bs fm q sm bg v' (arr ++ [k]) w3/\FR L.own w2 w3/\(∀b,(L.arr v').own b->L.own b\/w2.heap.size<=b)):=hid fun w3 hP=>HU.out.pushed HK.out HIN.out HLEN.out hP;have HCL:Hid (∀wx:World,Below w2.heap.size w2 wx->Calls Tryz.prog 137 #[gQ bs,aY L k] wx fun e w'=>e = .returned (.tuple #[])/\∃w3 kb c v',ENGp {st.used k m with kept:=st.kept ++ [k]} (L.arr v') lp bs fm q sm bg v' (arr ++ [k]) w3/\FR L.own w2 w3/\(∀b,(L.arr v').own b->L.own b\/w2.heap.size<=b)/\HT bs kb c L (bH (st.used k m)) (arr ++ [k]) w3 (tO (bH (st.used k m)) (arr.length+1) (arr ++ [k]) arr.length) w'/\v' = .slice (some ⟨kb,0,none⟩) (arr ++ [k]).length c):=by
  refine hid fun wx hb=>?_;have hux:=HU.out.below hb;have hsx:SB wx (L.bk k) _ _:=below_heap hb (aB HS2.out) HS2.out;obtain⟨a,c,hsh⟩:∃a c,kv = .slice a arr.length c:=by
   obtain⟨_,⟨h,h0⟩|⟨g,c,_,h,_⟩⟩:=hux.kv.1
   . exact⟨none,0,by rw[h,h0]⟩
   . exact⟨_,_,h⟩
  have hkvo:=hux.kv.1;have hS:=hux.s;have hkl:=hux.perm.length_eq;have hneb:(Value.slice a arr.length c).ownBlock≠some bs:=fun e=>by
   rw[hsh] at hkvo;obtain⟨_,⟨e1,_⟩|⟨g,cap,cur,e1,_,e3,_⟩⟩:=hkvo
   . rw[e1] at e;simp[Value.ownBlock] at e
   . rw[e1] at e;simp[Value.ownBlock] at e;subst e
     rw[hux.s] at e3;injection e3 with e3;injection e3 with _ e3;exact absurd e3 (by decide)
  have hnep:(Value.slice a arr.length c).ownBlock≠some (L.bk k):=fun e=>by
   rw[hsh] at hkvo;obtain⟨_,⟨e1,_⟩|⟨g,cap,cur,e1,_,e3,_⟩⟩:=hkvo
   . rw[e1] at e;simp[Value.ownBlock] at e
   . rw[e1] at e;simp[Value.ownBlock] at e;subst e
     rw[hsx] at e3;injection e3 with e3;injection e3 with _ e3;exact (fU (k:=k)).2.2.2 e3
  have hpbs:L.bk k≠bs:=fun e=>by
   have:=hsx;rw[SB,e,hux.s] at this;injection this with this;injection this with _ this;exact (fU (k:=k)).1 this.symm
  rw[hsh] at hS hkvo;have hpu:=Ge (B:=0) (TI k) F HMT.out (L.bk k) (-1) hS hkvo (by have:=HLEN.out;unfold cD at this;have h2:arr.length=st.kept.length:=hkl;omega) (Nat.zero_le _) hneb (by rw[<-HPL.out];exact hsx.cell (i:=10) rfl) (hsx.fr 10) hpbs hnep (aB hsx);have hlift:∀w3,uC wx w3 bs 0 (L.bk k) arr.length fm (.int .i64 st.rev) q sm bg (.int .u64 (st.used k m).uses) kv (arr.map (aY L)) (aY L k)->∃v',ENGp {st.used k m with kept:=st.kept ++ [k]} (L.arr v') lp bs fm q sm bg v' (arr ++ [k]) w3/\FR L.own w2 w3/\(∀b,(L.arr v').own b->L.own b\/w2.heap.size<=b):=fun w3 hP=>by
   obtain⟨v',a1,a2,a3⟩:=hux.pushed HK.out HIN.out HLEN.out hP;refine⟨v',a1,(FR.of_below hb).trans a2 fun i x=>.inl x,fun b hb2=>?_⟩;rcases a3 b hb2 with h1|h1
   . exact .inl h1
   . exact .inr (Nat.le_trans hb.size h1)
  refine (K9 (u:=bH (st.used k m)) (arr:=arr) (P:=fun w3 kb c=>∃v',ENGp {st.used k m with kept:=st.kept ++ [k]} (L.arr v') lp bs fm q sm bg v' (arr ++ [k]) w3/\FR L.own w2 w3/\(∀b,(L.arr v').own b->L.own b\/w2.heap.size<=b)/\o9 bs kb c L (bH (st.used k m)) (arr ++ [k]) w3/\v' = .slice (some ⟨kb,0,none⟩) (arr ++ [k]).length c) (by
   refine hpu.mono fun e w' ⟨h1,hP⟩=>⟨h1,?_⟩
   rw[<-hsh] at hP;obtain⟨v',a1,a2,a3⟩:=hlift w' hP;obtain⟨kb,c,hkv,hh,_⟩:=a1.hpx (by simp);exact⟨kb,c,v',a1,a2,a3,hh.arr,hkv⟩) (fun w3 kb c ⟨v',_,_,_,h,_⟩=>h)).mono fun e w' ⟨h1,w3,kb,c2,⟨v',a1,a2,a3,_,a5⟩,hT⟩=>?_
  exact⟨h1,w3,kb,c2,v',a1,a2,a3,hT,a5⟩
 have HHT:=hid (show ∀(kb c:Nat) (v':Value) (w3 w':World),ENGp {st.used k m with kept:=st.kept ++ [k]} (L.arr v') lp bs fm q sm bg v' (arr ++ [k]) w3->FR L.own w2 w3->(∀b,(L.arr v').own b->L.own b\/w2.heap.size<=b)->HT bs kb c L (bH (st.used k m)) (arr ++ [k]) w3 (tO (bH (st.used k m)) (arr.length+1) (arr ++ [k]) arr.length) w'->v' = .slice (some ⟨kb,0,none⟩) (arr ++ [k]).length c->∃v' kv' arr',cV (st.use k) (L.arr v') lp bs fm q sm bg kv' arr' w'/\FR L.own w1 w'/\(∀b,(L.arr v').own b->L.own b\/w1.heap.size<=b) from fun kb c v' w3 w' a1 a2 a3 hT a5=>by
  have hkb:(L.arr v').own kb:=.inr (by rw[a5];rfl);have a1':=a1;rw[a5] at a1';have h3:=a1'.heaped ((hT.toArr (.slice (some ⟨kb,0,none⟩) (arr ++ [k]).length c)));have h4:=Jw (used:=bH st) (used':=bH (st.used k m)) (k:=k) HH.out.heap fun x hx=>HUS.out x fun e=>HIN.out (e ▸ hx);have h5:FR (L.arr v').own w3 w':=Gf a1 hkb (hT.toArr v').pf fun _ x=>x;refine⟨.slice (some ⟨kb,0,none⟩) (arr ++ [k]).length c,_,_,⟨by rw[HEQ.out];exact h3,?_⟩,?_,?_⟩
  . rw[HEQ.out,hT.perm.length_eq,List.length_append]
    exact h4
  . refine HFR.out.trans ((a2.trans h5 fun i hi=>?_)) fun i x=>.inl x
    exact a3 i hi
  . rw[<-a5]
    intro b hb;have:=HSZ.out
    rcases a3 b hb with h6|h6
    . exact .inl h6
    . exact .inr (by omega))
 unfold gQ aY at HCL;have e00:w2.drew.cell? ⟨L.bk k,0,none⟩=some (.pointer (some ⟨bs,1,none⟩)):=e0;go_wp2_with fail
 first
  | (refine (HCL.out _ (Below.refl _ _)).mono ?_
     rintro e w3⟨rfl,w4,kb,c,v',a1,a2,a3,hT,a5⟩;have HR:=hid (HHT.out kb c v' w4 w3 a1 a2 a3 hT a5);clear a1 a2 a3 hT a5)
  | (go_region_with (go_at_call 137;go_must (refine (HCL.out _ (by first|exact Below.refl _ _|exact aJ _)).mono ?_;rintro e w3⟨rfl,w4,kb,c,v',a1,a2,a3,hT,a5⟩;have HR:=hid (HHT.out kb c v' w4 w3 a1 a2 a3 hT a5);clear a1 a2 a3 hT a5)))
 all_goals
  go_wp2;go_end0
  exact⟨rfl,HR.out⟩
theorem Gh{st:St V}{L:aM}{lp:Option K}{bs:Nat}{fm:Value}{w:World}(h:bN st L lp bs fm w){k:K}(hk:st.sl k≠none)(hlen:k∉st.kept->st.kept.length<cD) :
 Calls Tryz.prog 118 #[aY L k] w fun e w'=>e = .returned (.tuple #[])/\∃L',bN (st.use k) L' lp bs fm w'/\Next st (st.use k) L L' w w':=by
 obtain⟨q,sm,bg,kv,arr,h⟩:=h;obtain⟨m,hm⟩:=Option.ne_none_iff_exists'.1 hk;have hsl:∀j,st.sl j≠none->(st.use k).sl j≠none:=fun j hj=>by
  simp only[St.use,hm,St.put];split
  . simp
  . exact hj
 have hsr:(st.use k).src=st.src:=by simp[St.use,hm,St.put]
 by_cases hin:k∈arr
 . refine (Ju h hm hin).mono fun e w' ⟨h1,kv',arr',h2,h3⟩=>⟨h1,L,⟨q,sm,bg,kv',arr',h2⟩,⟨fun j hj=>⟨hsl j hj,rfl⟩,fun f hf=>⟨by rw[hsr];exact hf,rfl⟩,fun b hb=>.inl hb,h3⟩⟩
 . refine (Jx h hm hin (hlen fun e=>hin (h.perm.mem_iff.2 e))).mono fun e w' ⟨h1,v',kv',arr',h2,h3,h4⟩=>⟨h1,L.arr v',⟨q,sm,bg,kv',arr',h2⟩,⟨fun j hj=>⟨hsl j hj,rfl⟩,fun f hf=>⟨by rw[hsr];exact hf,rfl⟩,h4,h3⟩⟩
theorem cV.ans{st:St V}{L:aM}{lp:Option K}{bs:Nat}{fm q sm bg kv:Value}{arr:List K}{w w':World}(h:cV st L lp bs fm q sm bg kv arr w){k:K}{m:bU V}(hk:st.sl k=some m){v:V}{x:Jb}{vs:List Value}(ho:One (L.bk k) w w')
 (hsb:SB w' (L.bk k) (TB k) (aX bs k (gK st m v) (decide (lp=some k)) x (kA arr k) vs)) (hval:bO L.own w k.kind (some v) vs) :
 cV (st.put k (gK st m v)) L lp bs fm q sm bg kv arr w':=
 ⟨h.slot hk ho.block (Nat.le_of_eq ho.size.symm) ⟨x,vs,hsb,hval⟩ fun _ _=>rfl,by rw[tR (m':=gK st m v) hk rfl];exact h.heap⟩
def jB(st:St V)(L:aM)(lp:Option K)(bs:Nat)(fm:Value)(k:K)(v:V)(w:World):Ending->World->Prop:=fun e w'=>
 e = .returned (.tuple #[])/\∃st' L',answer st k v=some st'/\bN st' L' lp bs fm w'/\Next st st' L L' w w'
theorem DI(p:Nat)(w:World)(h:w.cell? ⟨p,10,none⟩=some (.int .i64 (-1))):Calls Tryz.prog 222 #[.pointer (some ⟨p,0,none⟩)] w fun e w'=>e = .returned (.bool true)/\w'=w:=iH p (-1) w h
theorem aG(w:World)(o:Obj):Below w.heap.size w (w.alloc o):=(Below.refl _ _).alloc (Nat.le_refl _) _
theorem One.fr{O:Nat->Prop}{b:Nat}{w w':World}(h:One b w w')(hb:O b):FR O w w':=⟨h.os,h.tape,h.output,Nat.le_of_eq h.size.symm,fun k _ hn=>h.block k fun e=>hn (e ▸ hb)⟩
theorem cV.ansUse{st:St V}{L:aM}{lp:Option K}{bs:Nat}{fm q sm bg kv:Value}{arr:List K}{w w0 W:World}(h:cV st L lp bs fm q sm bg kv arr w){k:K}{m:bU V}(hk:st.sl k=some m)(hlen:st.kept.length<cD)(hnk:k∉st.kept){v:V}{x:Jb}{vs:List Value}(hb:Below w.heap.size w w0)(ho:One (L.bk k) w0 W)
 (hsb:SB W (L.bk k) (TB k) (aX bs k (gK st m v) (decide (lp=some k)) x (kA arr k) vs)) (hval:bO L.own w k.kind (some v) vs) :
 Calls Tryz.prog 118 #[aY L k] W (jB st L lp bs fm k v w):=by
 have h0:=h.below hb;have hk0:∀(b:Nat) (o:Obj),¬L.own b->w.heap[b]? = some o->w0.heap[b]? = some o:=fun b o _ hbo=>below_heap hb (aB hbo) hbo;have h1:=h0.ans hk ho hsb (hval.keep hk0);refine (Gh ⟨q,sm,bg,kv,arr,h1⟩ (k:=k) (by simp[St.put]) fun _=>hlen).mono fun e w' ⟨a,L',b,c⟩=>⟨a,_,L',by simp only[answer,hk,hlen,hnk,not_false_eq_true,and_self,if_true],b,?_⟩
 exact (Next.put ((FR.of_below hb).trans (ho.fr (h.cell k m hk).own) fun i x=>.inl x)).trans c
theorem dN{O:Nat->Prop}{w:World}{kind:Nat}{x:Option V}{vs:List Value}(h:bO O w kind x vs):bO O w kind none vs:=by
 match x,h with
 | some (.inl l),⟨⟨h1,_⟩,v,b,⟨ao,c,hv,_⟩⟩=>subst h1;exact⟨_,_,_,by rw[b,hv]⟩
 | some (.inr (.inl (its,f))),⟨⟨h1,_⟩,v,b,⟨ao,c,hv,_⟩⟩=>
  subst h1;cases f with
  | none=>exact⟨_,_,_,_,by rw[b,hv];rfl⟩
  | some n=>exact⟨_,_,_,_,by rw[b,hv];rfl⟩
 | some (.inr (.inr (.inl l))),⟨⟨h1,_⟩,v,b,⟨ao,c,hv,_⟩⟩=>subst h1;exact⟨_,_,_,by rw[b,hv]⟩
 | some (.inr (.inr (.inr b))),⟨h1,h2,h3,h4⟩=>simp only[bO,h1,h2,h3,if_false];exact⟨b,h4⟩
 | none,h=>exact h
abbrev cM(k:K):Value:=.agg ⟨gC k⟩
theorem KL(j k:K)(w:World):(Op.equal 99 (cM j) (cM k)).run Tryz.prog w = .ok (decide (j=k)) w:=by
 rw[show Op.equal 99 (cM j) (cM k)=Op.equalIn (9999+1) 99 (.agg ⟨gC j⟩) (.agg ⟨gC k⟩) from rfl];rw[run_equalIn_struct (P:=Tryz.prog) w 9999 99 _ _ (by kernel_rfl) (by kernel_rfl)];have e3:decide (j=k)=(((j.kind:Int)==(k.kind:Int))&&((j.file.toList==k.file.toList)&&(j.name.toList==k.name.toList))):=by
  rw[Bool.eq_iff_iff];simp only[decide_eq_true_eq,Bool.and_eq_true];constructor
  . rintro rfl
    exact⟨beq_self_eq_true _,beq_self_eq_true _,beq_self_eq_true _⟩
  . rintro⟨a,b,c⟩
    cases j;cases k;have a1:=eq_of_beq a;have b1:=Dt.1 (show bB _ _=true from b);have c1:=Dt.1 (show bB _ _=true from c);simp only at a1 b1 c1;simp only[K.mk.injEq];exact⟨by omega,b1,c1⟩
 rw[e3];simp[Program.fieldsOf,Tryz.underlying99,Op.eqFields,gC,go_sem];split
 . split
   . split
     . simp[*]
     . simp[*]
   . simp[*]
 . simp[*]
theorem NZ(k:K)(e:Bool)(w:World):(Instr.checkKey e 10000 99 (cM k)).run Tryz.prog w = .ok () w:=by
 obtain⟨kind,f,n⟩:=k;show (Instr.checkKey e 10000 99 (.agg ⟨[.int .i64 (kind:Nat),.string f,.string n]⟩)).run Tryz.prog w = .ok () w;generalize ((kind:Nat):Int)=z;kernel_rfl
theorem MG(w:World)(k:K)(f:K->Value):∀(es:List MapEntry) (ks:List K) (i:Nat),es.map (fun e=>(e.key,e.val))=ks.map (fun k=>(cM k,f k))->
 (Instr.findAsking 99 (cM k) es i).run Tryz.prog w = .ok (if k∈ks then some (i+ks.idxOf k,f k) else none) w
 | [],[],i,_=>by simp[Instr.findAsking]
 | [],j::ks,i,h=>by simp at h
 | e::es,[],i,h=>by simp at h
 | e::es,j::ks,i,h=>by
  simp only[List.map_cons,List.cons.injEq,Prod.mk.injEq] at h;obtain⟨⟨h1,h2⟩,h3⟩:=h;by_cases hk:k=j
  . subst hk
    simp[Instr.findAsking,h1,h2,KL]
  . rw[Instr.findAsking,h1]
    simp only[Sem.run_bind,KL,Result.andThen_ok,hk,decide_false,Bool.false_eq_true,if_false];rw[MG w k f es ks (i+1) h3];have hix:(j::ks).idxOf k=ks.idxOf k+1:=by
     have hjk:(j==k)=false:=by rw[beq_eq_false_iff_ne];exact Ne.symm hk
     rw[List.idxOf_cons,hjk];rfl
    rw[hix];by_cases hm:k∈ks
    . rw[if_pos hm,if_pos (List.mem_cons_of_mem _ hm)]
      rw[show i+1+List.idxOf k ks=i+(List.idxOf k ks+1) by omega]
    . rw[if_neg hm,if_neg fun e=>(List.mem_cons.1 e).elim hk hm]
theorem Gi(w:World)(k:K)(f:K->Value)(es:List MapEntry)(ks:List K)(h:es.map (fun e=>(e.key,e.val))=ks.map (fun k=>(cM k,f k))) :
 (Instr.findKey 99 (cM k) es).run Tryz.prog w = .ok (if k∈ks then some (ks.idxOf k,f k) else none) w:=by
 rw[run_findKey_eq (P:=Tryz.prog) w (by kernel_rfl),MG w k f es ks 0 h];simp
theorem qB{sl:K->Option (bU V)}{L:aM}{sm:Value}{w:World}(h:KI sl L sm w)(k:K):(Instr.lookup 58 sm (cM k) false).run Tryz.prog w = .ok (if sl k=none then .nilIface else aY L k) w:=by
 rcases h with ⟨h1,h2⟩|⟨b,es,n,h1,h2,h3,ks,h4,h5,h6⟩
 . subst h1
   have hf:=Gi w k (aY L) [] [] rfl;simp only[List.not_mem_nil,if_false] at hf;simp[Instr.lookup,run_underlying Tryz.underlying58,NZ,hf,Result.andThen,h2]
 . subst h1
   have hf:=Gi w k (aY L) es.toList ks h4;by_cases hk:k∈ks
   . rw[if_pos hk] at hf
     simp[Instr.lookup,run_underlying Tryz.underlying58,MapKept.run_getObj_map h3,NZ,hf,Result.andThen,(h6 k).1 hk]
   . rw[if_neg hk] at hf
     have hn:sl k=none:=Classical.byContradiction fun e=>hk ((h6 k).2 e);simp[Instr.lookup,run_underlying Tryz.underlying58,MapKept.run_getObj_map h3,NZ,hf,Result.andThen,hn]
theorem uD{w:World}{b n:Nat}{es:Array MapEntry}{ks:List K}{f:K->Value}(k:K)(v:Value)(h:w.heap[b]? = some (.map es n))(he:es.toList.map (fun e=>(e.key,e.val))=ks.map (fun k=>(cM k,f k)))(hk:k∉ks) :
 (Instr.mapUpdate 58 (.map (some b)) (cM k) v).run Tryz.prog w = .ok () (Ses.setO w b (.map (es.push {key:=cM k,val:=v,born:=n}) (n+1))):=by
 have hf:=Gi w k f es.toList ks he;rw[if_neg hk] at hf;simp[Instr.mapUpdate,run_underlying Tryz.underlying58,MapKept.run_getObj_map h,NZ,hf,MapKept.run_setObj_map _ h,Result.andThen,Ses.setO]
theorem bL{w2 w w':World}{p0 p1 p2 p3:Addr}{v0 v1 v2 v3:Value}(h:Below w2.heap.size w2 w/\w.cell? p0=some v0/\w.cell? p1=some v1/\w.cell? p2=some v2/\w.cell? p3=some v3)(hb:Below w.heap.size w w') :
 Below w2.heap.size w2 w'/\w'.cell? p0=some v0/\w'.cell? p1=some v1/\w'.cell? p2=some v2/\w'.cell? p3=some v3:=⟨aF h.1 hb,aK hb h.2.1,aK hb h.2.2.1,aK hb h.2.2.2.1,aK hb h.2.2.2.2⟩
def pF(w2 w:World)(kb bs:Nat)(fl nm:ByteArray)(v0 v3:Value):Prop:=Below w2.heap.size w2 w/\w.cell? ⟨kb,0,none⟩=some v0/\w.cell? ⟨kb,1,none⟩=some (.string fl)/\w.cell? ⟨kb,2,none⟩=some (.string nm)/\w.cell? ⟨bs,3,none⟩=some v3/\w.frozen? ⟨kb,1,none⟩=false/\w.frozen? ⟨kb,2,none⟩=false
theorem lt_of_cell{w:World}{p:Addr}{v:Value}(h:w.cell? p=some v):p.block<w.heap.size:=by
 rcases Nat.lt_or_ge p.block w.heap.size with h1|h1
 . exact h1
 . simp[World.cell?,Array.getElem?_eq_none h1] at h
theorem bW{w2 w w':World}{kb bs:Nat}{fl nm:ByteArray}{v0 v3:Value}(h:pF w2 w kb bs fl nm v0 v3)(hb:Below w.heap.size w w'):pF w2 w' kb bs fl nm v0 v3:=
 ⟨aF h.1 hb,aK hb h.2.1,aK hb h.2.2.1,aK hb h.2.2.2.1,aK hb h.2.2.2.2.1,(hb.frozen (p:=⟨kb,1,none⟩) (lt_of_cell h.2.2.1)).trans h.2.2.2.2.2.1,(hb.frozen (p:=⟨kb,2,none⟩) (lt_of_cell h.2.2.2.1)).trans h.2.2.2.2.2.2⟩
theorem iI{w2 w:World}{kb bs:Nat}{fl nm:ByteArray}{v0 v3:Value}(h:pF w2 w kb bs fl nm v0 v3):pF w2 (w.setCell ⟨kb,1,none⟩ (.string fl)) kb bs fl nm v0 v3:=by
 rw[Ses.setCell_same h.2.2.1];exact h
theorem iJ{w2 w:World}{kb bs:Nat}{fl nm:ByteArray}{v0 v3:Value}(h:pF w2 w kb bs fl nm v0 v3):pF w2 (w.setCell ⟨kb,2,none⟩ (.string nm)) kb bs fl nm v0 v3:=by
 rw[Ses.setCell_same h.2.2.2.1];exact h
structure N0 (W2 W:World) (bs kb p ms n:Nat) (es:Array MapEntry) (TT:TypeId) (f:Value) (rv:Int) (q bg kv:Value) (us:Int) (cs:Array Value) (key:Array Value):Prop where
 s:W.heap[bs]? = some (.cells #[f,.int .i64 rv,q,.map (some ms),bg,kv,.int .u64 us] 66)
 k:W.heap[kb]? = some (.cells key 99)
 p:W.heap[p]? = some (.cells cs TT)
 m:W.heap[ms]? = some (.map es n)
 fr:Ses.Fr [bs] W2 W
theorem qC{W2:World}{bs kb p:Nat}{TT:TypeId}{f:Value}{rv:Int}{q bg kv:Value}{us:Int}{cs key:Array Value}(hs:W2.heap[bs]? = some (.cells #[f,.int .i64 rv,q,.map none,bg,kv,.int .u64 us] 66))(hk:W2.heap[kb]? = some (.cells key 99))
 (hN:(W2.alloc (.cells cs TT)).heap[W2.heap.size]? = some (.cells cs TT)) (hne:kb≠bs) (hp:p=W2.heap.size) :
 N0 W2 (((W2.alloc (.cells cs TT)).alloc (.map #[] 0)).setCell ⟨bs,3,none⟩ (.map (some (W2.heap.size+1)))) bs kb p (W2.heap.size+1) 0 #[] TT f rv q bg kv us cs key:=by
 have h1:=aB hs;subst hp;have hz:(W2.alloc (.cells cs TT)).heap.size=W2.heap.size+1:=by simp
 have hm:=aI (W2.alloc (.cells cs TT)) (.map #[] 0);rw[hz] at hm;exact⟨aH (i:=3) (aC _ (aC _ hs)) _,(aD hne _).trans (aC _ (aC _ hk)),(aD (by omega) _).trans (aC _ hN),(aD (by omega) _).trans hm,(((Ses.Fr.refl _ _).alloc _).alloc _).setCell _ (.inl (by simp)) _⟩
theorem sS{W2:World}{bs kb ms n:Nat}{es:Array MapEntry}{TT:TypeId}{f:Value}{rv:Int}{q bg kv:Value}{us:Int}{cs key:Array Value}(hs:W2.heap[bs]? = some (.cells #[f,.int .i64 rv,q,.map (some ms),bg,kv,.int .u64 us] 66))(hk:W2.heap[kb]? = some (.cells key 99))(hm:W2.heap[ms]? = some (.map es n))
 (hN:(W2.alloc (.cells cs TT)).heap[W2.heap.size]? = some (.cells cs TT)) :
 N0 W2 (W2.alloc (.cells cs TT)) bs kb W2.heap.size ms n es TT f rv q bg kv us cs key:=
 ⟨aC _ hs,aC _ hk,hN,aC _ hm,(Ses.Fr.refl _ _).alloc _⟩
structure FN (w w':World) (bs p ms n:Nat) (es:Array MapEntry) (TT T:TypeId) (f:Value) (rv:Int) (q bg kv:Value) (us:Int) (cs:List Value) (key:Value):Prop where
 s:w'.heap[bs]? = some (.cells #[f,.int .i64 rv,q,.map (some ms),bg,kv,.int .u64 us] 66)
 sb:SB w' p TT cs
 m:w'.heap[ms]? = some (.map (es.push {key:=key,val:=.iface T (.pointer (some ⟨p,0,none⟩)),born:=n}) (n+1))
 lp:w.heap.size<=p
 fr:Ses.Fr [bs,ms] w w'
theorem N0.fn{w W2 W:World}{bs kb p ms n:Nat}{es:Array MapEntry}{TT:TypeId}{f:Value}{rv:Int}{q bg kv:Value}{us:Int}{cs key:Array Value}(h:N0 W2 W bs kb p ms n es TT f rv q bg kv us cs key)(hF:Ses.Fr [bs] w W2)(hp:W2.heap.size<=p)(T:TypeId) :
 FN w (Ses.setO W.drew ms (.map (es.push {key:=.agg key,val:=.iface T (.pointer (some ⟨p,0,none⟩)),born:=n}) (n+1))) bs p ms n es TT T f rv q bg kv us cs.toList (.agg key):=by
 have hd:∀(i:Nat) cs' TT',W.heap[i]? = some (.cells cs' TT')->i≠ms:=fun i cs' TT' hi e=>by
  subst e;have:=hi.symm.trans h.m
  simp at this
 have hms:=aB h.m;refine⟨(Ses.setO_ne _ _ _ _ (hd _ _ _ h.s)).trans h.s,(Ses.setO_ne _ _ _ _ (hd _ _ _ h.p)).trans h.p,Ses.setO_eq _ (show W.drew.heap[ms]? = _ from h.m),?_,?_⟩
 . have:=hF.size;omega
 . exact ((hF.trans h.fr).mono (T:=[bs,ms]) (fun k hk=>.inl (by simp at hk ⊢;exact .inl hk))).drew.setO _ (.inl (by simp)) _
theorem dJ(s:ByteArray)(w:World)(hl:s.size<=cD) :
 Calls Tryz.prog 23 #[.string s] w fun e w'=>e = .returned (.string s)/\Below w.heap.size w w':=by
 unfold cD at hl;go_enter Tryz.func23,Tryz.ntmps23;go_wp2_with (go_at_call 49;refine (Tryz.stringslite_Clone _ _ (by omega)).mono ?_;rintro e w'⟨rfl,hb⟩)
 go_ret;exact⟨rfl,hb⟩
end Go.Proofs.YthibodlojlkppaaGreatDoor

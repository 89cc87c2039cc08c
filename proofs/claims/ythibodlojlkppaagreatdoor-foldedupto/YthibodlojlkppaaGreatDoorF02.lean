/-
  The files that a plan makes: their words, their trees. What the files that a plan makes tell: each value is the sum that it says; no report finds anything. A plan's raw numbers, used up: the sums that they make.
-/
import Derived.Test.YthibodlojlkppaaGreatDoorB23
import Derived.Test.YthibodlojlkppaaGreatDoorB24
import Derived.Test.YthibodlojlkppaaGreatDoorF01
set_option linter.unusedVariables false
set_option linter.unusedSectionVars false
set_option linter.unusedSimpArgs false
set_option maxRecDepth 100000
set_option maxHeartbeats 40000000

namespace Go.Proofs.YthibodlojlkppaaGreatDoor
open Go.RowKit
variable [DecidableEq K] [LawfulBEq Lk]
def flL (u:Nat):List UInt8:=[UInt8.ofNat (97+u)]
def flB (u:Nat):ByteArray:=⟨(flL u).toArray⟩
def useT (u:Nat):List UInt8:=117 :: 115 :: 101 :: 32 :: (flL u ++ [59,10])
def useW (u:Nat):List (List UInt8):=[[117,115,101],flL u,[59]]
def lineT (k:Nat) (e:PE):List UInt8:=112 :: 117 :: 98 :: 32 :: 108 :: 101 :: 116 :: 32 :: (nmL k ++ (58 :: 105 :: 110 :: 116 :: 32 :: 61 :: 32 :: (e.t ++ [59,10])))
def lineW (k:Nat) (e:PE):List (List UInt8):=[112,117,98] :: [108,101,116] :: nmL k :: [58] :: [105,110,116] :: [61] :: (e.w ++ [[59]])
def usesT:List Nat→List UInt8
 | [] => []
 | u :: us=>useT u ++ usesT us
def usesW:List Nat→List (List UInt8)
 | [] => []
 | u :: us=>useW u ++ usesW us
def fileT (us:List Nat) (k:Nat) (e e':PE):List UInt8:=usesT us ++ (lineT k e ++ lineT (k+1) e')
def fileW (us:List Nat) (k:Nat) (e e':PE):List (List UInt8):=usesW us ++ (lineW k e ++ (lineW (k+1) e' ++ [[]]))
theorem let_u:∀ {u:Nat},u < 10→isLetB (UInt8.ofNat (97+u)).toNat=true:=let_k
theorem w_use {u:Nat} (h:u < 10) (r:List UInt8):words (useT u ++ r)=useW u ++ words r:=by
 simp only [useT,useW,List.cons_append,List.append_assoc,List.nil_append]
 rw [show (117 :: 115 :: 101 :: 32 :: (flL u ++ 59 :: 10 :: r):List UInt8)=117 :: ([115,101] ++ 32 :: (flL u ++ 59 :: 10 :: r)) from rfl,w_kw (by decide) nx_sp,w_sp]
 rw [show flL u ++ 59 :: 10 :: r=UInt8.ofNat (97+u) :: ([] ++ 59 :: 10 :: r) from rfl,words_let (l:=[]) (fun x hx=>by rw [List.mem_singleton.1 hx];exact let_u h) (fun x hx=>(nx_se x hx).1),w_se,w_nl]
 rfl
theorem nx_co {r:List UInt8}:Nx (58 :: r):=nx_cons (by decide) (by decide)
theorem w_line {m k:Nat} {e:PE} (hk:k < 10) (he:e.ok m) (r:List UInt8):words (lineT k e ++ r)=lineW k e ++ words r:=by
 simp only [lineT,lineW,List.cons_append,List.append_assoc,List.nil_append]
 rw [show (112 :: 117 :: 98 :: 32 :: 108 :: 101 :: 116 :: 32 :: (nmL k ++ 58 :: 105 :: 110 :: 116 :: 32 :: 61 :: 32 :: (e.t ++ 59 :: 10 :: r)):List UInt8)=112 :: ([117,98] ++ 32 :: (108 :: ([101,116] ++ 32 :: (nmL k ++ 58 :: (105 :: ([110,116] ++ 32 :: (61 :: 32 :: (e.t ++ 59 :: 10 :: r)))))))) from rfl,
  w_kw (by decide) nx_sp,w_sp,w_kw (by decide) nx_sp,w_sp,w_nm hk nx_co,w_co,w_kw (by decide) nx_sp,w_sp,w_eq,w_sp,PE.words e he _ nx_se,w_se,w_nl]
theorem w_uses:∀ (us:List Nat),(∀ u∈us,u < 10)→∀ (r:List UInt8),words (usesT us ++ r)=usesW us ++ words r
 | [],_,r=>rfl
 | u :: us,h,r=>by
  simp only [usesT,usesW,List.append_assoc]
  rw [w_use (h u (by simp)),w_uses us (fun x hx=>h x (List.mem_cons_of_mem _ hx))]
theorem w_file {us:List Nat} {m k:Nat} {e e':PE} (hu:∀ u∈us,u < 10) (hk:k+1 < 10) (he:e.ok m) (he':e'.ok m):words (fileT us k e e')=fileW us k e e':=by
 unfold fileT fileW
 rw [w_uses us hu,w_line (by omega) he,←List.append_nil (lineT (k+1) e'),w_line hk he',words_nil]
section
variable {toks:List Tok}
theorem use_name {u:Nat} (h:u < 6):nameB ⟨(flL u).toArray⟩=true:=by
 rcases (show u=0∨u=1∨u=2∨u=3∨u=4∨u=5 by omega) with rfl | rfl | rfl | rfl | rfl | rfl <;> kernel_rfl
theorem nm_name {k:Nat} (h:k < 10):nameB ⟨(nmL k).toArray⟩=true:=by
 rcases (show k=0∨k=1∨k=2∨k=3∨k=4∨k=5∨k=6∨k=7∨k=8∨k=9 by omega) with rfl | rfl | rfl | rfl | rfl | rfl | rfl | rfl | rfl | rfl <;> kernel_rfl
theorem not_nob {a:Nat} {x:List UInt8} (h:tx toks a=⟨x.toArray⟩) (hx:x ≠ []):eqB (tx toks a) ⟨#[]⟩=false:=by
 rw [h]
 unfold eqB
 rw [Lib.toList_data,Lib.toList_data]
 cases x with
 | nil=>exact absurd rfl hx
 | cons c r=>rfl
theorem step_use {f a u:Nat} (hu:u < 6) (hw:WAt toks a (useW u)):treeXP toks (f+1) a=(⟨0,a+1,flB u,nob,none⟩ :: (treeXP toks f (a+3)).1,(treeXP toks f (a+3)).2):=by
 obtain ⟨h0,h1,h2,_⟩:=hw
 have e:itemX toks a=(a+3,some ⟨0,a+1,flB u,nob,none⟩):=by
  unfold itemX
  rw [isT_at h0,if_pos (by decide)]
  unfold useX
  rw [h1,use_name hu,if_pos rfl,isT_at h2,if_pos (by decide)]
  rfl
 rw [treeXP,not_nob h0 (by simp),if_neg (by simp),e]
theorem step_line {f a k:Nat} {m:Nat} {e:PE} (hk:k < 10) (he:e.ok m) (hf:e.fu≤1690) (hd:e.dep < 20) (hw:WAt toks a (lineW k e)) :
 treeXP toks (f+1) a=(⟨2,a+2,nmB k,int_,some e.x⟩ :: (treeXP toks f (a+6+e.w.length+1)).1,(treeXP toks f (a+6+e.w.length+1)).2):=by
 simp only [lineW,WAt] at hw
 obtain ⟨h0,h1,h2,h3,h4,h5,hw⟩:=hw
 rw [WAt.app] at hw
 obtain ⟨hE,h6,_⟩:=hw
 have hx:=PE.expr he hf hd hE (stp_at h6 (by decide) (by decide) (by decide))
 have et:itemX toks a=(a+6+e.w.length+1,some ⟨2,a+2,nmB k,int_,some e.x⟩):=by
  unfold itemX
  rw [isT_at h0,if_neg (by decide),isT_at h0,if_pos (by decide)]
  unfold letX
  rw [isT_at h1,if_pos (by decide),h2,nm_name hk,if_pos rfl,isT_at h3,if_pos (by decide)]
  have hty:isTy toks (a+1+3)=true:=by
   unfold isTy
   rw [isT_at h4]
   rfl
  rw [hty,if_pos rfl,isT_at h5,if_pos (by decide)]
  rw [show exprX toks (a+1+5)=_ from hx]
  simp only
  rw [isT_at h6,if_pos (by decide),show tx toks (a+1+3)=⟨([105,110,116]:List UInt8).toArray⟩ from h4]
  rfl
 rw [treeXP,not_nob h0 (by simp),if_neg (by simp),et]
def usesI:Nat→List Nat→List Itx
 | _,[] => []
 | a,u :: us=>⟨0,a+1,flB u,nob,none⟩ :: usesI (a+3) us
theorem usesW_len:∀ (us:List Nat),(usesW us).length=3 * us.length
 | []=>rfl
 | u :: us=>by simp only [usesW,useW,List.length_append,List.length_cons,List.length_nil,usesW_len us];omega
theorem tree_uses:∀ (us:List Nat) (f a:Nat) (r:List (List UInt8)),(∀ u∈us,u < 6)→WAt toks a (usesW us ++ r) →
 treeXP toks (us.length+f) a=(usesI a us ++ (treeXP toks f (a+3 * us.length)).1,(treeXP toks f (a+3 * us.length)).2)
 | [],f,a,r,_,_=>by simp [usesI]
 | u :: us,f,a,r,h,hw=>by
  rw [usesW,List.append_assoc,WAt.app] at hw
  obtain ⟨h1,h2⟩:=hw
  rw [show (u :: us).length+f=(us.length+f)+1 by simp only [List.length_cons];omega,step_use (h u (by simp)) h1]
  rw [tree_uses us f (a+3) r (fun x hx=>h x (List.mem_cons_of_mem _ hx)) h2,show a+3+3 * us.length=a+3 * (u :: us).length by simp only [List.length_cons];omega]
  rfl
theorem tree_file {us:List Nat} {m k:Nat} {e e':PE} (hu:∀ u∈us,u < 6) (hk:k+1 < 10) (he:e.ok m) (he':e'.ok m) (hf:e.fu≤1690∧e'.fu≤1690) (hd:e.dep < 20∧e'.dep < 20) :
 ∃ n n',treeX (lexAll ⟨(fileT us k e e').toArray⟩)=(usesI 0 us ++ [⟨2,n,nmB k,int_,some e.x⟩,⟨2,n',nmB (k+1),int_,some e'.x⟩],none):=by
 have hw:=wat_lex ⟨(fileT us k e e').toArray⟩
 have hl:=congrArg List.length (lexAll_words ⟨(fileT us k e e').toArray⟩)
 have ew:words ((⟨(fileT us k e e').toArray⟩:ByteArray).data.toList)=fileW us k e e':=w_file (fun u x=>by have:=hu u x;omega) hk he he'
 rw [ew] at hw hl
 generalize lexAll ⟨(fileT us k e e').toArray⟩=toks at *
 simp only [List.length_map] at hl
 have hlen:us.length+3≤(fileW us k e e').length:=by
  unfold fileW lineW
  simp only [List.length_append,List.length_cons,List.length_nil,usesW_len]
  omega
 unfold treeX
 obtain ⟨g,hg⟩:∃ g,toks.length=us.length+(g+3):=⟨toks.length - us.length - 3,by omega⟩
 rw [hg]
 have hw0:=hw
 unfold fileW at hw
 rw [tree_uses us (g+3) 0 _ hu hw]
 rw [WAt.app,usesW_len] at hw
 obtain ⟨_,hw⟩:=hw
 rw [WAt.app] at hw
 obtain ⟨h1,hw⟩:=hw
 rw [WAt.app] at hw
 obtain ⟨h2,h3,_⟩:=hw
 have l1:(lineW k e).length=6+e.w.length+1:=by simp only [lineW,List.length_append,List.length_cons,List.length_nil];omega
 have l2:(lineW (k+1) e').length=6+e'.w.length+1:=by simp only [lineW,List.length_append,List.length_cons,List.length_nil];omega
 rw [step_line (by omega) he hf.1 hd.1 h1]
 rw [l1] at h2 h3
 rw [←Nat.add_assoc,←Nat.add_assoc] at h2 h3
 rw [step_line hk he' hf.2 hd.2 h2]
 rw [l2] at h3
 rw [←Nat.add_assoc,←Nat.add_assoc] at h3
 rw [treeXP,show eqB (tx toks (0+3 * us.length+6+e.w.length+1+6+e'.w.length+1)) ⟨#[]⟩=true by rw [h3];unfold eqB;rw [Lib.toList_data];rfl,if_pos rfl]
 exact ⟨_,_,rfl⟩
end
theorem PE.mono {m m':Nat} (h:m≤m'):∀ (e:PE),e.ok m→e.ok m'
 | ⟨.inl _,_⟩,x=>x
 | ⟨.inr (.inl _),_⟩,x=>⟨Nat.lt_of_lt_of_le x.1 h,x.2⟩
 | ⟨.inr (.inr (.inl _)),s'⟩,x=>⟨PE.mono h (s' false) x.1,PE.mono h (s' true) x.2⟩
 | ⟨.inr (.inr (.inr (.inl _))),s'⟩,x=>⟨PE.mono h (s' false) x.1,PE.mono h (s' true) x.2⟩
 | ⟨.inr (.inr (.inr (.inr (.inl _)))),s'⟩,x=>⟨PE.mono h (s' false) x.1,PE.mono h (s' true) x.2⟩
 | ⟨.inr (.inr (.inr (.inr (.inr _)))),s'⟩,x=>⟨PE.mono h (s' false) x.1,PE.mono h (s' true) x.2⟩
def PE.val (V:Nat→Nat):PE→Nat
 | ⟨.inl n,_⟩=>n
 | ⟨.inr (.inl k),_⟩=>V k
 | ⟨.inr (.inr (.inl _)),s'⟩=>(s' false).val V+(s' true).val V
 | ⟨.inr (.inr (.inr (.inl _))),s'⟩=>(s' false).val V * (s' true).val V
 | ⟨.inr (.inr (.inr (.inr (.inl _)))),s'⟩=>if (s' false).val V=(s' true).val V then (s' false).val V else 1
 | ⟨.inr (.inr (.inr (.inr (.inr _)))),s'⟩=>if (s' false).val V=(s' true).val V then 1 else (s' true).val V
def PE.sm (V:Nat→Nat):PE→Prop
 | ⟨.inl _,_⟩=>True
 | ⟨.inr (.inl _),_⟩=>True
 | ⟨.inr (.inr (.inl _)),s'⟩=>(s' false).sm V∧(s' true).sm V∧(s' false).val V+(s' true).val V≤999999999
 | ⟨.inr (.inr (.inr (.inl _))),s'⟩=>(s' false).sm V∧(s' true).sm V∧(s' false).val V * (s' true).val V≤999999999
 | ⟨.inr (.inr (.inr (.inr (.inl _)))),s'⟩=>(s' false).sm V∧(s' true).sm V
 | ⟨.inr (.inr (.inr (.inr (.inr _)))),s'⟩=>(s' false).sm V∧(s' true).sm V
theorem bndI_le {n:Nat} (h:n≤999999999):bndI (n:Int)=some (n:Int):=by
 unfold bndI;rw [if_neg (by omega)]
theorem worth_eq {a b:Nat}:worthB ((a:Int) == (b:Int))=if a=b then 1 else 0:=by
 by_cases h:a=b
 · subst h;simp [worthB]
 · have:((a:Int) == (b:Int))=false:=by rw [beq_eq_false_iff_ne];omega
   rw [this,if_neg h];rfl
theorem if_tt {α:Type} (x y:α):(if True then x else y)=x:=if_pos trivial
theorem PE.reck {V:Nat→Nat} {M:ByteArray→Int} {m:Nat}:∀ (e:PE),e.ok m→e.sm V→(∀ k,k < 10→inX (nmB k) e.x→M (nmB k)=V k)→reckX M e.x=some (e.val V:Int)
 | ⟨.inl n,_⟩,_,_,_=>rfl
 | ⟨.inr (.inl k),_⟩,h,_,hM=>by show some (M (nmB k))=_;rw [hM k h.2 rfl];rfl
 | ⟨.inr (.inr (.inl _)),s'⟩,h,hs,hM=>by
  simp only [PE.x,reckX,PE.reck (s' false) h.1 hs.1 fun k hk x=>hM k hk (.inl x),PE.reck (s' true) h.2 hs.2.1 fun k hk x=>hM k hk (.inr x),if_true,two,three]
  rw [←Int.natCast_add,bndI_le hs.2.2];rfl
 | ⟨.inr (.inr (.inr (.inl _))),s'⟩,h,hs,hM=>by
  simp only [PE.x,reckX,PE.reck (s' false) h.1 hs.1 fun k hk x=>hM k hk (.inl x),PE.reck (s' true) h.2 hs.2.1 fun k hk x=>hM k hk (.inr x),two,three]
  rw [if_neg (by decide),if_tt,←Int.natCast_mul,bndI_le hs.2.2];rfl
 | ⟨.inr (.inr (.inr (.inr (.inl _)))),s'⟩,h,hs,hM=>by
  simp only [PE.x,reckX,PE.reck (s' false) h.1 hs.1 fun k hk x=>hM k hk (.inr (.inl x)),PE.reck (s' true) h.2 hs.2 fun k hk x=>hM k hk (.inl (.inr x)),two,three]
  rw [if_neg (by decide),if_neg (by decide),worth_eq,PE.val]
  by_cases he:(s' false).val V=(s' true).val V
  · simp [he]
  · simp [he]
 | ⟨.inr (.inr (.inr (.inr (.inr _)))),s'⟩,h,hs,hM=>by
  simp only [PE.x,reckX,PE.reck (s' false) h.1 hs.1 fun k hk x=>hM k hk (.inl (.inl x)),PE.reck (s' true) h.2 hs.2 fun k hk x=>hM k hk (.inr (.inr x)),two,three]
  rw [if_neg (by decide),if_neg (by decide),worth_eq,PE.val]
  by_cases he:(s' false).val V=(s' true).val V
  · simp [he]
  · simp [he]
theorem PE.typ {M:ByteArray→ByteArray} {m:Nat}:∀ (e:PE),e.ok m→(∀ k,k < 10→inX (nmB k) e.x→M (nmB k)=int_)→typeX M e.x=int_
 | ⟨.inl n,_⟩,_,_=>rfl
 | ⟨.inr (.inl k),_⟩,h,hM=>hM k h.2 rfl
 | ⟨.inr (.inr (.inl _)),s'⟩,h,hM=>by simp only [PE.x,typeX,PE.typ (s' false) h.1 fun k hk x=>hM k hk (.inl x),PE.typ (s' true) h.2 fun k hk x=>hM k hk (.inr x),two,three];rw [if_pos (eqB_is.2 rfl),if_neg (by decide),eqB_is.2 rfl];rfl
 | ⟨.inr (.inr (.inr (.inl _))),s'⟩,h,hM=>by simp only [PE.x,typeX,PE.typ (s' false) h.1 fun k hk x=>hM k hk (.inl x),PE.typ (s' true) h.2 fun k hk x=>hM k hk (.inr x),two,three];rw [if_pos (eqB_is.2 rfl),if_neg (by decide),eqB_is.2 rfl];rfl
 | ⟨.inr (.inr (.inr (.inr (.inl _)))),s'⟩,h,hM=>by
  simp only [PE.x,typeX,PE.typ (s' false) h.1 fun k hk x=>hM k hk (.inr (.inl x)),PE.typ (s' true) h.2 fun k hk x=>hM k hk (.inl (.inr x)),two,three]
  rw [if_pos (eqB_is.2 rfl),if_tt,eqB_no (a:=int_) (b:=nob) (by decide),show onlyX (!false) bool_=bool_ from rfl,eqB_is.2 rfl,eqB_is.2 rfl];rfl
 | ⟨.inr (.inr (.inr (.inr (.inr _)))),s'⟩,h,hM=>by
  simp only [PE.x,typeX,PE.typ (s' false) h.1 fun k hk x=>hM k hk (.inl (.inl x)),PE.typ (s' true) h.2 fun k hk x=>hM k hk (.inr (.inr x)),two,three]
  rw [if_pos (eqB_is.2 rfl),if_tt,eqB_no (a:=int_) (b:=nob) (by decide),show onlyX (!false) bool_=bool_ from rfl,eqB_is.2 rfl,eqB_is.2 rfl];rfl
theorem PE.refs {m:Nat}:∀ (e:PE),e.ok m→∀ n,inX n e.x→∃ k,k < m∧k < 10∧n=nmB k
 | ⟨.inl _,_⟩,_,n,h=>by simp [PE.x,inX,two,three] at h
 | ⟨.inr (.inl k),_⟩,hk,n,h=>by simp only [PE.x,inX,two,three] at h;exact ⟨k,hk.1,hk.2,h.symm ▸ rfl⟩
 | ⟨.inr (.inr (.inl _)),s'⟩,h,n,hn=>by simp only [PE.x,inX,two,three] at hn;exact hn.elim (PE.refs (s' false) h.1 n) (PE.refs (s' true) h.2 n)
 | ⟨.inr (.inr (.inr (.inl _))),s'⟩,h,n,hn=>by simp only [PE.x,inX,two,three] at hn;exact hn.elim (PE.refs (s' false) h.1 n) (PE.refs (s' true) h.2 n)
 | ⟨.inr (.inr (.inr (.inr (.inl _)))),s'⟩,h,n,hn=>by
  simp only [PE.x,inX,two,three] at hn
  rcases hn with (x | x) | x | x
  · exact PE.refs (s' false) h.1 n x
  · exact PE.refs (s' true) h.2 n x
  · exact PE.refs (s' false) h.1 n x
  · exact absurd x id
 | ⟨.inr (.inr (.inr (.inr (.inr _)))),s'⟩,h,n,hn=>by
  simp only [PE.x,inX,two,three] at hn
  rcases hn with (x | x) | x | x
  · exact PE.refs (s' false) h.1 n x
  · exact PE.refs (s' true) h.2 n x
  · exact absurd x id
  · exact PE.refs (s' true) h.2 n x
theorem types_at {F:Txt} {f:ByteArray} (x:ByteArray):∀ (ns:List ByteArray) (M:ByteArray→ByteArray),(x∈ns∨M x=saidF F f x)→typesF F f ns M x=saidF F f x
 | [],M,h=>h.elim (fun x=>absurd x (by simp)) id
 | n :: ns,M,h=>by
  refine types_at x ns _ ?_
  by_cases e:x=n
  · right;simp [e]
  · rcases h with h | h
    · rcases List.mem_cons.1 h with h | h
      · exact absurd h e
      · exact .inl h
    · right;simp [e,h]
theorem values_at {F:Txt} {v:ByteArray→ByteArray→ByteArray} {f:ByteArray} (x:ByteArray):∀ (ns:List ByteArray) (fault:ByteArray) (M:ByteArray→Int),(x∈ns∨M x=readW (v (findF F f x) x))→(valuesF F v f ns fault M).2 x=readW (v (findF F f x) x)
 | [],_,M,h=>h.elim (fun x=>absurd x (by simp)) id
 | n :: ns,_,M,h=>by
  refine values_at x ns _ _ ?_
  by_cases e:x=n
  · right;simp [e]
  · rcases h with h | h
    · rcases List.mem_cons.1 h with h | h
      · exact absurd h e
      · exact .inl h
    · right;simp [e,h]
theorem values_none {F:Txt} {v:ByteArray→ByteArray→ByteArray} {f:ByteArray}:∀ (ns:List ByteArray) (M:ByteArray→Int),(∀ n∈ns,grav (v (findF F f n) n)=0)→(valuesF F v f ns nob M).1=nob
 | [],_,_=>rfl
 | n :: ns,M,h=>by
  have h0:=h n (by simp)
  simp only [valuesF]
  rw [show worse nob (v (findF F f n) n)=nob by unfold worse;rw [h0];rfl]
  exact values_none ns _ fun x hx=>h x (List.mem_cons_of_mem _ hx)
def nuB (n:Nat):ByteArray:=⟨(Lib.itoa (n:Int)).toArray⟩
theorem nu_all:(List.range 1001).all (fun n=>decide (grav (nuB n)=0) && decide (readW (nuB n)=(n:Int)))=true:=by kernel_rfl
theorem nu_ok {n:Nat} (h:n≤1000):grav (nuB n)=0∧readW (nuB n)=(n:Int):=by
 have:=List.all_eq_true.1 nu_all n (List.mem_range.2 (by omega))
 simp only [Bool.and_eq_true,decide_eq_true_eq] at this
 exact this
structure Made (F:Txt) (E:Nat→PE) (V:Nat→Nat):Prop where
 txt:∀ i,i < 5→F (flB i)=some ⟨(fileT (List.range i) (2 * i) (E (2 * i)) (E (2 * i+1))).toArray⟩
 ok:∀ k,k < 10→(E k).ok k
 fu:∀ k,k < 10→(E k).fu≤1690∧(E k).dep < 20
 vl:∀ k,k < 10→V k=(E k).val V∧(E k).sm V∧V k≤1000
theorem nm_inj:∀ {j k:Nat},j < 10→k < 10→((nmB j).toList == (nmB k).toList)=decide (j=k):=by
 have key:(List.range 10).all (fun j=>(List.range 10).all fun k=>((nmB j).toList == (nmB k).toList) == decide (j=k))=true:=by kernel_rfl
 intro j k hj hk
 have:=List.all_eq_true.1 (List.all_eq_true.1 key j (List.mem_range.2 hj)) k (List.mem_range.2 hk)
 exact eq_of_beq this
section
variable {F:Txt} {E:Nat→PE} {V:Nat→Nat}
theorem Made.tree (h:Made F E V) {i:Nat} (hi:i < 5):∃ n n',treeF F (flB i)=(usesI 0 (List.range i) ++ [⟨2,n,nmB (2 * i),int_,some (E (2 * i)).x⟩,⟨2,n',nmB (2 * i+1),int_,some (E (2 * i+1)).x⟩],none):=by
 have:=tree_file (us:=List.range i) (m:=10) (k:=2 * i) (e:=E (2 * i)) (e':=E (2 * i+1)) (fun u hu=>by have:=List.mem_range.1 hu;omega) (by omega) (PE.mono (by omega) _ (h.ok _ (by omega))) (PE.mono (by omega) _ (h.ok _ (by omega)))
  ⟨(h.fu _ (by omega)).1,(h.fu _ (by omega)).1⟩ ⟨(h.fu _ (by omega)).2,(h.fu _ (by omega)).2⟩
 unfold treeF toksF
 rw [h.txt i hi]
 exact this
theorem named_uses (nm:ByteArray):∀ (us:List Nat) (a:Nat) (r:List Itx),namedX nm (usesI a us ++ r)=namedX nm r
 | [],_,_=>rfl
 | u :: us,a,r=>by
  have:=named_uses nm us (a+3) r
  unfold namedX at this ⊢
  simp only [usesI,List.cons_append]
  rw [List.filter_cons_of_neg (by simp [isNX]),this]
theorem Made.named (h:Made F E V) {i k:Nat} (hi:i < 5) (hk:k < 10):∃ n,namedX (nmB k) (treeF F (flB i)).1=if k / 2=i then [⟨2,n,nmB k,int_,some (E k).x⟩] else []:=by
 obtain ⟨n,n',ht⟩:=h.tree hi
 rw [ht,named_uses]
 have e1:=nm_inj (j:=2 * i) (k:=k) (by omega) hk
 have e2:=nm_inj (j:=2 * i+1) (k:=k) (by omega) hk
 unfold namedX isNX
 simp only [List.filter_cons,List.filter_nil,e1,e2]
 by_cases c:k / 2=i
 · rcases (show 2 * i=k∨2 * i+1=k by omega) with c1 | c1
   · subst c1
     exact ⟨n,by simp [c]⟩
   · subst c1
     exact ⟨n',by simp [c]⟩
 · exact ⟨0,by simp [c,show ¬ 2 * i=k by omega,show ¬ 2 * i+1=k by omega]⟩
theorem pubs_uses:∀ (us:List Nat) (a:Nat) (r:List Itx),pubsX (usesI a us ++ r)=pubsX r
 | [],_,_=>rfl
 | u :: us,a,r=>by
  have:=pubs_uses us (a+3) r
  unfold pubsX at this ⊢
  simp only [usesI,List.cons_append]
  rw [List.filter_cons_of_neg (by simp),this]
theorem nm_le:∀ i < 5,(decide (nmL (2 * i)≤nmL (2 * i+1)))=true∧Lib.compact [nmL (2 * i),nmL (2 * i+1)] = [nmL (2 * i),nmL (2 * i+1)]:=by decide
theorem Made.exp (h:Made F E V) {i:Nat} (hi:i < 5):expF F (flB i) = [nmB (2 * i),nmB (2 * i+1)]:=by
 obtain ⟨n,n',ht⟩:=h.tree hi
 unfold expF expX
 rw [ht,pubs_uses]
 have hp:pubsX [⟨2,n,nmB (2 * i),int_,some (E (2 * i)).x⟩,⟨2,n',nmB (2 * i+1),int_,some (E (2 * i+1)).x⟩] = [nmL (2 * i),nmL (2 * i+1)]:=rfl
 obtain ⟨h1,h2⟩:=nm_le i hi
 rw [hp,List.mergeSort_of_pairwise (by simpa using h1),h2]
 rfl
theorem uses_all:∀ (us:List Nat) (a:Nat) (r:List Itx) (acc:List ByteArray),(∀ i∈r,i.kind≠0)→(us.map flB).Nodup→(∀ u∈us,flB u ∉ acc)→usesX (usesI a us ++ r) acc=acc ++ us.map flB
 | [],a,[],acc,_,_,_=>by simp [usesI,usesX]
 | [],a,i :: r,acc,h,hn,hm=>by
  simp only [usesI,List.nil_append,usesX]
  have:(i.kind == 0)=false:=by simpa using h i (by simp)
  rw [this]
  exact uses_all [] a r acc (fun x hx=>h x (List.mem_cons_of_mem _ hx)) hn hm
 | u :: us,a,r,acc,h,hn,hm=>by
  have h1:memB acc (flB u)=false:=by
   cases hb:memB acc (flB u) with
   | false=>rfl
   | true=>exact absurd (memB_iff.1 hb) (hm u (by simp))
  simp only [usesI,List.cons_append,usesX,h1]
  rw [List.map_cons,List.nodup_cons] at hn
  show usesX (usesI (a+3) us ++ r) (acc ++ [flB u])=_
  rw [uses_all us (a+3) r (acc ++ [flB u]) h hn.2 fun x hx hy => ?_]
  · simp
  · rcases List.mem_append.1 hy with hy | hy
    · exact hm x (List.mem_cons_of_mem _ hx) hy
    · rw [List.mem_singleton] at hy
      exact hn.1 (hy ▸ List.mem_map.2 ⟨x,hx,rfl⟩)
theorem fl_nodup:∀ i < 6,((List.range i).map flB).Nodup:=by decide
theorem Made.uses (h:Made F E V) {i:Nat} (hi:i < 5):usesX (treeF F (flB i)).1 []=(List.range i).map flB:=by
 obtain ⟨n,n',ht⟩:=h.tree hi
 rw [ht]
 have:=uses_all (List.range i) 0 [⟨2,n,nmB (2 * i),int_,some (E (2 * i)).x⟩,⟨2,n',nmB (2 * i+1),int_,some (E (2 * i+1)).x⟩] [] (fun x hx=>by
  simp only [List.mem_cons,List.not_mem_nil,or_false] at hx
  rcases hx with rfl | rfl <;> simp) (fl_nodup i (by omega)) (fun _ _=>by simp)
 simpa using this
theorem nmB_inj {j k:Nat} (hj:j < 10) (hk:k < 10) (h:nmB j=nmB k):j=k:=by
 have:=nm_inj hj hk
 rw [h] at this
 simpa using this.symm
theorem Made.used (h:Made F E V) {k:Nat} (hk:k < 10):∀ (us:List Nat) (found:ByteArray),(∀ u∈us,u < 5)→us.Nodup→((k / 2∈us∧found=none_)→usedF F (nmB k) (us.map flB) found=flB (k / 2))∧(k / 2 ∉ us→usedF F (nmB k) (us.map flB) found=found)
 | [],found,_,_=>⟨fun x=>absurd x.1 (by simp),fun _=>rfl⟩
 | u :: us,found,hu,hn=>by
  rw [List.nodup_cons] at hn
  have hu0:=hu u (by simp)
  have hx:=h.exp hu0
  simp only [List.map_cons,usedF]
  rw [hx]
  have hm:memB [nmB (2 * u),nmB (2 * u+1)] (nmB k)=decide (k / 2=u):=by
   by_cases c:k / 2=u
   · rw [decide_eq_true c,memB_iff]
     rcases (show k=2 * u∨k=2 * u+1 by omega) with e | e <;> rw [e] <;> simp
   · rw [decide_eq_false c]
     cases hb:memB [nmB (2 * u),nmB (2 * u+1)] (nmB k) with
     | false=>rfl
     | true =>
      have:=memB_iff.1 hb
      simp only [List.mem_cons,List.not_mem_nil,or_false] at this
      rcases this with e | e
      · have:=nmB_inj hk (by omega) e;omega
      · have:=nmB_inj hk (by omega) e;omega
  rw [hm]
  have ih:=fun found=>Made.used h hk us found (fun x hx=>hu x (List.mem_cons_of_mem _ hx)) hn.2
  by_cases c:k / 2=u
  · rw [decide_eq_true c]
    refine ⟨fun hf => ?_,fun hf=>absurd (by rw [c];simp) hf⟩
    rw [hf.2,eqB_is.2 rfl,if_pos rfl,if_pos rfl,(ih _).2 (by rw [c];exact hn.1),c]
  · rw [decide_eq_false c]
    refine ⟨fun hf => ?_,fun hf => ?_⟩
    · simp only [Bool.false_eq_true,if_false]
      refine (ih _).1 ⟨?_,hf.2⟩
      rcases List.mem_cons.1 hf.1 with e | e
      · exact absurd e c
      · exact e
    · simp only [Bool.false_eq_true,if_false]
      exact (ih _).2 fun x=>hf (List.mem_cons_of_mem _ x)
theorem Made.find (h:Made F E V) {i k:Nat} (hi:i < 5) (hk:k / 2≤i):findF F (flB i) (nmB k)=flB (k / 2):=by
 obtain ⟨n,hn⟩:=h.named hi (k:=k) (by omega)
 unfold findF
 rw [hn]
 by_cases c:k / 2=i
 · rw [if_pos c]
   show flB i=_
   rw [c]
 · rw [if_neg c]
   show usedF F (nmB k) (usesX (treeF F (flB i)).1 []) none_=_
   rw [h.uses hi]
   exact (Made.used h (by omega) (List.range i) none_ (fun u hu=>by have:=List.mem_range.1 hu;omega) List.nodup_range).1 ⟨List.mem_range.2 (by omega),rfl⟩
theorem fl_file:∀ i < 5,fileB (flB i)=true:=by
 have:(List.range 5).all (fun i=>fileB (flB i))=true:=by kernel_rfl
 intro i hi
 exact List.all_eq_true.1 this i (List.mem_range.2 hi)
theorem Made.said (h:Made F E V) {i k:Nat} (hi:i < 5) (hk:k / 2≤i):saidF F (flB i) (nmB k)=int_:=by
 obtain ⟨n,hn⟩:=h.named (i:=k / 2) (by omega) (k:=k) (by omega)
 unfold saidF
 rw [h.find hi hk,if_pos (fl_file _ (by omega)),hn,if_pos rfl]
theorem Made.type (h:Made F E V) {k:Nat} (hk:k < 10):typeF F (flB (k / 2)) (nmB k)=int_:=by
 obtain ⟨n,hn⟩:=h.named (i:=k / 2) (by omega) hk
 unfold typeF
 rw [hn,if_pos rfl]
 simp only
 rw [PE.typ (m:=k) (E k) (h.ok k hk) fun j hj10 hj => ?_,eqB_is.2 rfl,if_pos rfl]
 rw [types_at _ _ _ (.inl ((mem_names _ _ _).2 (.inr hj)))]
 obtain ⟨j',h1,h2,h3⟩:=PE.refs (E k) (h.ok k hk) _ hj
 have:=nmB_inj hj10 h2 h3
 exact h.said (by omega) (by omega)
theorem int_well:(eqB int_ none_ || eqB int_ bad_)=false:=by rw [eqB_no (by decide),eqB_no (by decide)];rfl
theorem Made.expr (h:Made F E V) {k:Nat} (hk:k < 10):exprF F (flB (k / 2)) (nmB k)=some (E k).x:=by
 obtain ⟨n,hn⟩:=h.named (i:=k / 2) (by omega) hk
 unfold exprF
 rw [h.type hk,int_well,hn,if_pos rfl]
 rfl
theorem Made.value (h:Made F E V) {v:ByteArray→ByteArray→ByteArray} (hv:ValsOf F v):∀ (k:Nat),k < 10→v (flB (k / 2)) (nmB k)=nuB (V k):=fun k=>by
 induction k using Nat.strongRecOn with
 | _ k ih =>
  intro hk
  have hkey:∀ n,inX n (E k).x→∃ j,j < k∧j < 10∧n=nmB j∧v (findF F (flB (k / 2)) n) n=nuB (V j):=fun n hn=>by
   obtain ⟨j,h1,h2,h3⟩:=PE.refs (E k) (h.ok k hk) n hn
   refine ⟨j,h1,h2,h3,?_⟩
   rw [h3,h.find (by omega) (by omega)]
   exact ih j h1 h2
  rw [hv.eq]
  unfold valueF
  rw [h.expr hk,h.type hk]
  simp only
  unfold valueEnd
  rw [values_none _ _ fun n hn => ?_,eqB_is.2 rfl,if_pos rfl]
  · rw [PE.reck (V:=V) (m:=k) (E k) (h.ok k hk) (h.vl k hk).2.1 fun j hj hx => ?_]
    · simp only
      unfold writeW
      rw [eqB_no (a:=int_) (b:=bool_) (by decide),if_neg (by simp),←(h.vl k hk).1]
      rfl
    · rw [values_at _ _ _ _ (.inl ((mem_names _ _ _).2 (.inr hx)))]
      obtain ⟨i,h1,h2,h3,h4⟩:=hkey _ hx
      rw [h4,nmB_inj hj h2 h3]
      exact (nu_ok (h.vl i h2).2.2).2
  · rcases (mem_names _ _ _).1 hn with hx | hx
    · simp at hx
    · obtain ⟨i,h1,h2,h3,h4⟩:=hkey _ hx
      rw [h4]
      exact (nu_ok (h.vl i h2).2.2).1
theorem usesI_mem {i:Itx}:∀ (us:List Nat) (a:Nat),i∈usesI a us→i.kind=0∧∃ u∈us,i.name=flB u
 | [],_,h=>by simp [usesI] at h
 | u :: us,a,h=>by
  rcases List.mem_cons.1 h with rfl | h
  · exact ⟨rfl,u,by simp,rfl⟩
  · obtain ⟨h1,x,h2,h3⟩:=usesI_mem us (a+3) h
    exact ⟨h1,x,List.mem_cons_of_mem _ h2,h3⟩
theorem items_none {v:ByteArray→ByteArray→ByteArray} {f:ByteArray} {toks:List Tok} {its:List Itx}:∀ (l:List Itx),(∀ i∈l,wrongF F v f its i=nob)→itemsF F v f toks its l nob=nob
 | [],_=>rfl
 | i :: r,h=>by
  simp only [itemsF]
  rw [h i (by simp),show tellF toks i.num nob nob=nob by unfold tellF;rw [eqB_is.2 rfl];rfl]
  exact items_none r fun x hx=>h x (List.mem_cons_of_mem _ hx)
theorem Made.wrong (h:Made F E V) {v:ByteArray→ByteArray→ByteArray} (hv:ValsOf F v) {i:Nat} (hi:i < 5) {x:Itx} (hx:x∈(treeF F (flB i)).1):wrongF F v (flB i) (treeF F (flB i)).1 x=nob:=by
 obtain ⟨n,n',ht⟩:=h.tree hi
 have hlet:∀ k n,k < 10→k / 2=i→wrongF F v (flB i) (treeF F (flB i)).1 ⟨2,n,nmB k,int_,some (E k).x⟩=nob:=fun k n hk e=>by
  obtain ⟨m,hm⟩:=h.named hi hk
  unfold wrongF
  rw [if_neg (by simp),hm,if_pos e,if_neg (by simp)]
  simp only
  rw [←e,h.type hk,eqB_no (by decide),if_neg (by simp),h.value hv k hk]
  unfold worse
  rw [(nu_ok (h.vl k hk).2.2).1]
  rfl
 rw [ht] at hx hlet ⊢
 rcases List.mem_append.1 hx with hx | hx
 · obtain ⟨h1,u,h2,h3⟩:=usesI_mem _ _ hx
   have hu:=List.mem_range.1 h2
   unfold wrongF
   rw [h1,if_pos (show (0 == 0)=true from rfl),h3,h.txt u (by omega)]
   rfl
 · simp only [List.mem_cons,List.not_mem_nil,or_false] at hx
   rcases hx with rfl | rfl
   · exact hlet _ _ (by omega) (by omega)
   · exact hlet _ _ (by omega) (by omega)
theorem Made.report (h:Made F E V) {v:ByteArray→ByteArray→ByteArray} (hv:ValsOf F v) {i:Nat} (hi:i < 5):reportF F v (flB i)=nob:=by
 have h2:(treeF F (flB i)).2=none:=by obtain ⟨n,n',ht⟩:=h.tree hi;rw [ht]
 unfold reportF
 rw [h2]
 exact items_none _ fun x hx=>h.wrong hv hi hx
end
def pickN (c:Int) (n:Nat):Nat:=((if c < 0 then -(c+1) else c) % (n:Int)).toNat
theorem pickN_lt (c:Int) {n:Nat} (h:0 < n):pickN c n < n:=by
 unfold pickN
 have h1:=Int.emod_nonneg (if c < 0 then -(c+1) else c) (show (n:Int)≠0 by omega)
 have h2:=Int.emod_lt_of_pos (if c < 0 then -(c+1) else c) (show (0:Int) < n by omega)
 omega
def oneM (l:List Int) (i n:Nat):Nat × Nat:=match l[i]? with
 | some c=>(pickN c n,i+1)
 | none=>(0,i)
theorem oneM_lt (l:List Int) (i:Nat) {n:Nat} (h:0 < n):(oneM l i n).1 < n:=by
 unfold oneM
 split
 · exact pickN_lt _ h
 · exact h
def vof (vs:List Nat) (k:Nat):Nat:=vs.getD k 0
def leafM (l:List Int) (vs:List Nat) (way i:Nat):PE × Nat :=
 if way=0∨vs.length=0 then (.num (oneM l i 7).1,(oneM l i 7).2) else (.ref (oneM l i vs.length).1,(oneM l i vs.length).2)
def combM (vs:List Nat) (way:Nat) (a b:PE):PE :=
 if way=2 then .add a b else if way=3 then .mul a b else if way=4 then (if a.val (vof vs)=b.val (vof vs) then .iteA a b else .iteB a b) else a
def sumM (l:List Int) (vs:List Nat):Nat→Nat→PE × Nat
 | 0,i=>leafM l vs ((oneM l i 6).1 % 2) (oneM l i 6).2
 | d+1,i=>if (oneM l i 6).1 < 2 then leafM l vs (oneM l i 6).1 (oneM l i 6).2 else
  (combM vs (oneM l i 6).1 (sumM l vs d (oneM l i 6).2).1 (sumM l vs d (sumM l vs d (oneM l i 6).2).2).1,(sumM l vs d (sumM l vs d (oneM l i 6).2).2).2)
theorem leafM_ok (l:List Int) {vs:List Nat} (hv:vs.length≤10) (way i:Nat):(leafM l vs way i).1.ok vs.length∧(leafM l vs way i).1.sm (vof vs)∧(leafM l vs way i).1.fu=4∧(leafM l vs way i).1.dep=0∧(leafM l vs way i).1.t.length≤2:=by
 unfold leafM
 split
 · refine ⟨?_,trivial,rfl,rfl,by simp [PE.t,dgL,two,three]⟩
   have:=oneM_lt l i (n:=7) (by decide)
   show (oneM l i 7).1 < 10
   omega
 · rename_i h
   have:=oneM_lt l i (n:=vs.length) (by omega)
   exact ⟨⟨this,by omega⟩,trivial,rfl,rfl,by simp [PE.t,nmL,two,three]⟩
theorem leafM_val (l:List Int) {vs:List Nat} (hs:∀ x∈vs,x≤1000) (way i:Nat):(leafM l vs way i).1.val (vof vs)≤1000:=by
 unfold leafM
 split
 · have:=oneM_lt l i (n:=7) (by decide)
   show (oneM l i 7).1≤1000
   omega
 · show vof vs _≤1000
   unfold vof
   rw [List.getD_eq_getElem?_getD]
   cases hx:vs[(oneM l i vs.length).1]? with
   | none=>simp
   | some x=>exact hs x (List.mem_of_getElem? hx)
structure L1 (vs:List Nat) (e:PE) (f d b:Nat):Prop where
 ok:e.ok vs.length
 fu:e.fu≤f
 dep:e.dep≤d
 len:e.t.length≤b
theorem combM_ok {vs:List Nat} {a b:PE} {f d n:Nat} (h1:L1 vs a f d n) (h2:L1 vs b f d n) (way:Nat):L1 vs (combM vs way a b) (2 * f+10) (2 * d+1) (3 * n+24):=by
 obtain ⟨a1,a2,a3,a4⟩:=h1
 obtain ⟨b1,b2,b3,b4⟩:=h2
 unfold combM
 split
 · refine ⟨⟨a1,b1⟩,?_,?_,?_⟩ <;> simp only [PE.fu,PE.dep,PE.t,List.length_append,List.length_cons,List.length_nil,two,three] <;> omega
 · split
   · refine ⟨⟨a1,b1⟩,?_,?_,?_⟩ <;> simp only [PE.fu,PE.dep,PE.t,List.length_append,List.length_cons,List.length_nil,two,three] <;> omega
   · split
     · split
       · refine ⟨⟨a1,b1⟩,?_,?_,?_⟩ <;> simp only [PE.fu,PE.dep,PE.t,List.length_append,List.length_cons,List.length_nil,two,three] <;> omega
       · refine ⟨⟨a1,b1⟩,?_,?_,?_⟩ <;> simp only [PE.fu,PE.dep,PE.t,List.length_append,List.length_cons,List.length_nil,two,three] <;> omega
     · exact ⟨a1,by omega,by omega,by omega⟩
theorem sumM_0 (l:List Int) {vs:List Nat} (hv:vs.length≤10) (i:Nat):L1 vs (sumM l vs 0 i).1 4 0 2:=by
 obtain ⟨h1,_,h2,h3,h4⟩:=leafM_ok l hv ((oneM l i 6).1 % 2) (oneM l i 6).2
 exact ⟨h1,Nat.le_of_eq h2,Nat.le_of_eq h3,h4⟩
theorem sumM_1 (l:List Int) {vs:List Nat} (hv:vs.length≤10) (i:Nat):L1 vs (sumM l vs 1 i).1 18 1 30:=by
 unfold sumM
 split
 · obtain ⟨h1,_,h2,h3,h4⟩:=leafM_ok l hv (oneM l i 6).1 (oneM l i 6).2
   exact ⟨h1,by omega,by omega,by omega⟩
 · exact combM_ok (sumM_0 l hv _) (sumM_0 l hv _) _
theorem sumM_2 (l:List Int) {vs:List Nat} (hv:vs.length≤10) (i:Nat):L1 vs (sumM l vs 2 i).1 46 3 114:=by
 unfold sumM
 split
 · obtain ⟨h1,_,h2,h3,h4⟩:=leafM_ok l hv (oneM l i 6).1 (oneM l i 6).2
   exact ⟨h1,by omega,by omega,by omega⟩
 · exact combM_ok (sumM_1 l hv _) (sumM_1 l hv _) _
structure Vl (vs:List Nat) (e:PE) (b:Nat):Prop where
 sm:e.sm (vof vs)
 val:e.val (vof vs)≤b
theorem val_0 (l:List Int) {vs:List Nat} (hv:vs.length≤10) (hs:∀ x∈vs,x≤1000) (i:Nat):Vl vs (sumM l vs 0 i).1 1000 :=
 ⟨(leafM_ok l hv _ _).2.1,leafM_val l hs _ _⟩
theorem combM_val {vs:List Nat} {a b:PE} {n:Nat} (hn:1≤n) (h1:Vl vs a n) (h2:Vl vs b n) (hb:2 * n≤999999999∧n * n≤999999999) (way:Nat):Vl vs (combM vs way a b) (max (2 * n) (n * n)):=by
 obtain ⟨a1,a2⟩:=h1
 obtain ⟨b1,b2⟩:=h2
 have hm:=Nat.mul_le_mul a2 b2
 have m1:=Nat.le_max_left (2 * n) (n * n)
 have m2:=Nat.le_max_right (2 * n) (n * n)
 unfold combM
 split
 · exact ⟨⟨a1,b1,by show a.val (vof vs)+b.val (vof vs)≤999999999;omega⟩,by simp only [PE.val,two,three];omega⟩
 · split
   · exact ⟨⟨a1,b1,by show a.val (vof vs) * b.val (vof vs)≤999999999;omega⟩,by simp only [PE.val,two,three];omega⟩
   · split
     · split
       · refine ⟨⟨a1,b1⟩,?_⟩
         show (if a.val (vof vs)=b.val (vof vs) then a.val (vof vs) else 1)≤_
         split <;> omega
       · refine ⟨⟨a1,b1⟩,?_⟩
         show (if a.val (vof vs)=b.val (vof vs) then 1 else b.val (vof vs))≤_
         split <;> omega
     · exact ⟨a1,by omega⟩
theorem val_1 (l:List Int) {vs:List Nat} (hv:vs.length≤10) (hs:∀ x∈vs,x≤1000) (i:Nat):Vl vs (sumM l vs 1 i).1 1000000:=by
 unfold sumM
 split
 · exact ⟨(leafM_ok l hv _ _).2.1,by have:=leafM_val l hs (oneM l i 6).1 (oneM l i 6).2;exact Nat.le_trans this (by decide)⟩
 · exact combM_val (n:=1000) (by decide) (val_0 l hv hs _) (val_0 l hv hs _) (by decide) _
theorem val_2 (l:List Int) {vs:List Nat} (hv:vs.length≤10) (hs:∀ x∈vs,x≤1000) (i:Nat):(sumM l vs 2 i).1.val (vof vs)≤1000000000000∧((sumM l vs 2 i).1.val (vof vs)≤1000→(sumM l vs 2 i).1.sm (vof vs)):=by
 unfold sumM
 split
 · obtain ⟨h1,h2,_⟩:=leafM_ok l hv (oneM l i 6).1 (oneM l i 6).2
   exact ⟨by have:=leafM_val l hs (oneM l i 6).1 (oneM l i 6).2;exact Nat.le_trans this (by decide),fun _=>h2⟩
 · have va:=val_1 l hv hs (oneM l i 6).2
   have vb:=val_1 l hv hs (sumM l vs 1 (oneM l i 6).2).2
   simp only
   generalize (sumM l vs 1 (oneM l i 6).2).1=a at *
   generalize (sumM l vs 1 (sumM l vs 1 (oneM l i 6).2).2).1=b at *
   obtain ⟨a1,a2⟩:=va
   obtain ⟨b1,b2⟩:=vb
   have hm:=Nat.mul_le_mul a2 b2
   unfold combM
   split
   · exact ⟨by simp only [PE.val,two,three];omega,fun _=>⟨a1,b1,by show a.val (vof vs)+b.val (vof vs)≤999999999;omega⟩⟩
   · split
     · exact ⟨by simp only [PE.val,two,three];omega,fun h=>⟨a1,b1,by show a.val (vof vs) * b.val (vof vs)≤999999999;have h2:a.val (vof vs) * b.val (vof vs)≤1000:=h;omega⟩⟩
     · split
       · split
         · refine ⟨?_,fun _=>⟨a1,b1⟩⟩
           show (if a.val (vof vs)=b.val (vof vs) then a.val (vof vs) else 1)≤_
           split <;> omega
         · refine ⟨?_,fun _=>⟨a1,b1⟩⟩
           show (if a.val (vof vs)=b.val (vof vs) then 1 else b.val (vof vs))≤_
           split <;> omega
       · exact ⟨by omega,fun _=>a1⟩
end Go.Proofs.YthibodlojlkppaaGreatDoor

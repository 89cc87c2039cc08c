/-
  begun: the walk. begun: the files are those that were set. A question of five files at most: more of them may be asked.
-/
import Derived.Test.YthibodlojlkppaaGreatDoorF03
import Derived.Test.YthibodlojlkppaaGreatDoorF04
set_option linter.unusedVariables false
set_option linter.unusedSectionVars false
set_option linter.unusedSimpArgs false
set_option maxRecDepth 100000
set_option maxHeartbeats 40000000

namespace Go.Proofs.YthibodlojlkppaaGreatDoor
open Go.RowKit
variable [DecidableEq K] [LawfulBEq Lk]
theorem known_file:fileB zF=true:=by kernel_rfl
theorem known_size:knownT0.size≤400:=by decide
theorem knownSet {W1:World}:Calls Tryz.prog 18 #[.pointer (some ⟨W1.heap.size,0,none⟩), .string zF, .string knownT0] (W1.alloc newO) fun e w'=>e = .returned (.int .i64 0)∧∃ L fm,ENG (({ stNew with began:=[] }:St V).setF zF knownT0) L none W1.heap.size fm w'∧FSt W1 ([] ++ [(zF,knownT0)]) (({ stNew with began:=[] }:St V).setF zF knownT0).files L fm w':=by
 obtain ⟨hE,hF⟩:=eng_new (W0:=W1) (new_heap W1 newO) (below_newK W1 newO) (Nat.le_refl _)
 refine (setC hE hF known_file rfl (Nat.zero_le _) (by decide) (by unfold maxLen;have:=known_size;omega)).mono ?_
 rintro e w' ⟨rfl,hp⟩
 rw [if_pos known_size]
 unfold SetPost2 at hp
 rw [if_pos known_size] at hp
 exact ⟨rfl,hp⟩
structure BGx (W0:World) (bs:Nat) (Xs:List ByteArray) (i:Nat) (wr:World):Prop where
 ex:∃ (st:St V) (L:Lay) (fm:Value) (fs:List (ByteArray × ByteArray)),ENG st L none bs fm wr∧FSt W0 fs st.files L fm wr∧Raw st∧st.rev≤i∧fs.length≤i∧(∀ f x,st.files f=some x→∃ j,j < i∧f=fileN j)∧∀ j,j < i→st.files (fileN j)=Xs[j]?
theorem BGx.below {W0:World} {bs i:Nat} {Xs:List ByteArray} {wr w':World} (h:BGx W0 bs Xs i wr) (hb:Below wr.heap.size wr w'):BGx W0 bs Xs i w':=by
 obtain ⟨st,L,fm,fs,h1,h2,h3⟩:=h.ex
 exact ⟨st,L,fm,fs,h1.below hb,h2.below hb,h3⟩
theorem BGx.low {W0:World} {bs i:Nat} {Xs:List ByteArray} {wr:World} (h:BGx W0 bs Xs i wr):Below W0.heap.size W0 wr:=by
 obtain ⟨st,L,fm,fs,_,h2,_⟩:=h.ex
 exact h2.low
theorem BGx.set {W0:World} {bs i:Nat} {Xs:List ByteArray} {wr:World} (h:BGx W0 bs Xs i wr) (hi:i < 6) {t:ByteArray} (hx:Xs[i]? = some t) (ht:t.size≤400) :
 Calls Tryz.prog 18 #[ptr bs, .string (fileN i), .string t] wr fun e w' => ∃ c:Int,e = .returned (.int .i64 c)∧BGx W0 bs Xs (i+1) w':=by
 obtain ⟨st,L,fm,fs,h1,h2,h3,h4,h5,h6,h7⟩:=h.ex
 have hnew:st.files (fileN i)=none:=by
  cases hf:st.files (fileN i) with
  | none=>rfl
  | some x =>
   obtain ⟨j,hj,e⟩:=h6 _ x hf
   have:=fileN_inj hi (by omega) e
   omega
 refine (setC h1 h2 (fileN_ok hi) hnew (by omega) (by omega) (by unfold maxLen;omega)).mono ?_
 rintro e w' ⟨rfl,hp⟩
 refine ⟨_,rfl,?_⟩
 unfold SetPost2 at hp
 rw [if_pos ht] at hp
 obtain ⟨L',fm',hE,hF⟩:=hp
 have hset:∀ f,(({ st with began:=[] }:St V).setF (fileN i) t).files f=if f=fileN i then some t else st.files f:=fun f=>rfl
 refine ⟨_,L',fm',_,hE,hF,h3.beg.setF _ _,?_,by simp;omega,fun f x hx => ?_,fun j hj => ?_⟩
 · rw [rev_setF];show st.rev+1≤i+1;omega
 · by_cases hfi:f=fileN i
   · exact ⟨i,by omega,hfi⟩
   · rw [hset,if_neg hfi] at hx
     obtain ⟨j,hj,e⟩:=h6 f x hx
     exact ⟨j,by omega,e⟩
 · rw [hset]
   by_cases hji:j=i
   · subst hji;rw [if_pos rfl,hx]
   · rw [if_neg fun e=>hji (fileN_inj (by omega) hi e)]
     exact h7 j (by omega)
theorem begun_startX {W w4:World} (Xs:List ByteArray) (h:Below (W.alloc newO).heap.size (W.alloc newO) w4):BGx W W.heap.size Xs 0 w4:=by
 have h0:=new_heap W newO
 have h1:w4.heap[W.heap.size]? = some newO:=below_heap h (heap_lt h0) h0
 obtain ⟨hE,hF⟩:=eng_new (W0:=W) h1 (below_seq (below_newK W newO) h) (Nat.le_refl _)
 exact ⟨_,_,_,_,hE,hF,raw_new,Nat.le_refl _,Nat.le_refl _,fun f x hx=>by simp [stNew] at hx,fun j hj=>by omega⟩
theorem begunX {W:World} {a:Option Addr} {Xs:List ByteArray} {c:Nat} (hT:Txs W a Xs) (h400:∀ X∈Xs,X.size≤400) (h6:Xs.length≤6) (hp:PT W.heap.size W) (he:∀ W1,Below W.heap.size W W1→EngAt W1) :
 Calls Tryz.prog 7 #[.slice a Xs.length c] W fun e w'=>e = .returned (.tuple #[.pointer (some ⟨W.heap.size,0,none⟩), .bool true])∧BGx W W.heap.size Xs Xs.length w':=by
 have HT:=hid hT
 have H400:=hid h400
 have H6:=hid h6
 have HN2:=hid (newC (W.alloc newO))
 have hsz:(W.alloc newO).heap.size=W.heap.size+1:=by simp
 have HKS:Hid (Calls Tryz.prog 18 #[.pointer (some ⟨W.heap.size+1,0,none⟩), .string ⟨#[122]⟩, .string ⟨#[112,117,98,32,108,101,116,32,113,58,105,110,116,32,61,32,50,32,42,32,51,32,43,32,119,59,32,108,101,116,32,119,58,105,110,116,32,61,32,52,59]⟩] ((W.alloc newO).alloc newO) fun e w'=>e = .returned (.int .i64 0)∧∃ L fm,ENG (({ stNew with began:=[] }:St V).setF zF knownT0) L none (W.heap.size+1) fm w'∧FSt (W.alloc newO) ([] ++ [(zF,knownT0)]) (({ stNew with began:=[] }:St V).setF zF knownT0).files L fm w'):=hid (by
  have h:=knownSet (W1:=W.alloc newO)
  rw [hsz] at h
  exact h)
 have HBS:=hid (fun w4 h=>begun_startX (W:=W) Xs (w4:=w4) h)
 have HKC:Hid (∀ (w:World) (fm:Value) (L:Lay),ENG (({ stNew with began:=[] }:St V).setF zF knownT0) L none (W.heap.size+1) fm w→FSt (W.alloc newO) ([] ++ [(zF,knownT0)]) (({ stNew with began:=[] }:St V).setF zF knownT0).files L fm w→Calls Tryz.prog 9 #[.pointer (some ⟨W.heap.size+1,0,none⟩), .int .i64 7, .string ⟨#[122]⟩, .string ⟨#[113]⟩] w fun e w'=>e = .returned (.tuple #[.string ⟨#[49,48]⟩, .int .i64 0])∧Below (W.alloc newO).heap.size (W.alloc newO) w'):=hid (fun w fm L h1 h2=>knownC (pt_up hp (below_newK W newO)) (he _ (below_newK W newO)) h1 h2)
 obtain ⟨n,hn⟩:∃ n,n=Xs.length:=⟨_,rfl⟩
 have hnm:(n:Int)≤9223372036854775807:=by have:=hT.ln;unfold maxLen at this;omega
 rw [←hn]
 have HN:=hid hn
 clear hT h400 h6 hp he hn hsz
 go_enter Tryz.func7,Tryz.ntmps7
 go_wp2_with fail
 refine (newC W).mono ?_
 rintro e w1 ⟨rfl,rfl⟩
 go_wp2_with fail
 refine HN2.out.mono ?_
 rintro e w2 ⟨rfl,rfl⟩
 go_wp2_with fail
 refine HKS.out.mono ?_
 rintro e w3 ⟨rfl,L3,fm3,hE3,hF3⟩
 have HK3:=hid (HKC.out w3 fm3 L3 hE3 hF3)
 clear hE3 hF3 HKS HKC HN2
 go_wp2_with fail
 refine HK3.out.mono ?_
 rintro e w4 ⟨rfl,hb4⟩
 have HG:=hid (HBS.out w4 hb4)
 clear hb4 HBS HK3
 go_wp2
 generalize hbs:W.heap.size=bs at HG ⊢
 go_loopg [9] 6 (fun f v9 wr => ∃ i,i+f=6∧i≤n∧v9 = .int .i64 (i:Nat)∧BGx W bs Xs i wr)
 case atStart=>exact ⟨0,by omega,Nat.zero_le _,rfl,HG.out⟩
 case round =>
  clear HG
  obtain ⟨i,hi,hil,rfl,hg⟩:=hrel
  have HI:=hid hg
  clear hg
  have hi0:(0:Int)≤(i:Int):=by omega
  by_cases hin:i < n
  · have hin2:(i:Int) < (n:Int):=by omega
    by_cases hi6:i < 6
    · have hi62:(i:Int) < 6:=by omega
      obtain ⟨X,hX⟩:∃ X,Xs[i]? = some X:=⟨_,List.getElem?_eq_getElem (by have:=HN.out;omega)⟩
      obtain ⟨b,o,hao,hcell⟩:=HT.out.ex
      obtain ⟨rfl,hbl⟩:=hao (by have:=HN.out;omega)
      have c0:wr.cell? ⟨b,o+i,none⟩=some (.string X):=cell_kept HI.out.low (hcell i X hX)
      have HX:=hid (H400.out X (List.mem_of_getElem? hX))
      have HXX:=hid hX
      have HI6:=hid hi6
      clear hX hcell hbl hao hi6
      go_wp2_with fail
      go_region_with (first
       | (go_at_call 10;go_must (refine (fileC i HI6.out _).mono ?_;rintro e w2 ⟨rfl,rfl⟩))
       | (go_at_call 18;go_must (refine ((HI.out.below (by first | exact Below.refl _ _ | exact below_drewN _ _)).set HI6.out HXX.out HX.out).mono ?_;rintro e w3 ⟨cc,rfl,hg3⟩;have HG3:=hid hg3;clear hg3)))
      all_goals go_wp2
      all_goals go_roundg (6 - (i+1))
      all_goals first
       | exact ⟨i+1,by have:=HI6.out;omega,by omega,by go_num,HG3.out⟩
       | exact ⟨i+1,by have:=HI6.out;omega,by omega,by go_num,HG3.out.below (below_drewN _ _)⟩
       | (have:=HI6.out;omega)
    · exact absurd (show i < 6 by have:=H6.out;have:=HN.out;omega) hi6
  · have hin2:¬ ((i:Int) < (n:Int)):=by omega
    go_wp2
    go_ret2
    have hie:i=n:=by omega
    subst hie
    exact ⟨rfl,HI.out⟩
section
variable {F:Txt} {v:ByteArray→ByteArray→ByteArray} {fs:List ByteArray}
theorem words5 (h:FOk F fs) (h5:fs.length≤5):(wordsF F fs).length≤2005:=by
 have:=flatMap_le (g:=fun f=>wordsT (toksF F f)) (c:=401) fs fun f _=>by unfold wordsT;rw [List.length_map];exact h.toks f
 unfold wordsF
 omega
theorem uni_len5 (h:FOk F fs) (h5:fs.length≤5) (f0 n0:ByteArray):(uniF F fs f0 n0).length≤58209:=by
 have h1:=words5 h h5
 have a1:=flatMap_le (g:=fun d=>(uFiles fs f0).flatMap fun f=>(n0 :: wordsF F fs).map fun n=>(⟨d,f,n⟩:K)) (c:=8 * 2006) ([5,6,7]:List Nat) fun d _=>by
  have b1:=flatMap_le (g:=fun f=>(n0 :: wordsF F fs).map fun n=>(⟨d,f,n⟩:K)) (c:=2006) (uFiles fs f0) fun f _=>by simp;omega
  refine Nat.le_trans b1 (Nat.mul_le_mul_right _ ?_)
  simp [uFiles];omega
 have a2:=flatMap_le (g:=fun d=>(uFiles fs f0 ++ wordsF F fs).map fun f=>(⟨d,f,nob⟩:K)) (c:=2013) ([1,2,3,4,8]:List Nat) fun d _=>by
  simp [uFiles];omega
 unfold uniF
 rw [List.length_append]
 simp only [List.length_cons,List.length_nil] at a1 a2
 omega
structure Well5 (W0:World) (bs:Nat) (fm:Value) (F:Txt) (v:ByteArray→ByteArray→ByteArray) (n:Nat) (st:St V) (w:World):Prop where
 ex:∃ L,At W0 bs fm st L w
 inv:Inv F (ansF F v) st
 idle:Idle st
 beg:BegOk st
 kept:st.kept.length≤40
 uses:st.uses≤n * 3469725797377
variable {W0 w:World} {bs:Nat} {fm:Value} {st:St V}
theorem Well5.of (h:Well W0 bs fm F v 0 st w):Well5 W0 bs fm F v 0 st w:=⟨h.ex,h.inv,h.idle,h.beg,h.kept,by have:=h.uses;rw [Nat.zero_mul] at *;exact this⟩
theorem Well5.to {n:Nat} (h:Well5 W0 bs fm F v n st w):Well W0 bs fm F v n st w:=⟨h.ex,h.inv,h.idle,h.beg,h.kept,Nat.le_trans h.uses (Nat.mul_le_mul_left _ (by decide))⟩
theorem Well5.below {n:Nat} (h:Well5 W0 bs fm F v n st w) {w':World} (hb:Below w.heap.size w w'):Well5 W0 bs fm F v n st w':=by
 have:=h.to.below hb
 exact ⟨this.ex,this.inv,this.idle,this.beg,this.kept,h.uses⟩
theorem ask5C (hF:Files W0 F v fs) (h5:fs.length≤5) {n:Nat} (hn:n < 5000000) (h:Well5 W0 bs fm F v n st w) {kind:Int} {f nm t:ByteArray} (hr:refX kind f nm=0) (hk5:5≤kind) (ht:ansF F v (qK kind f nm) = .s t) :
 Calls Tryz.prog 9 #[ptr bs, .int .i64 kind, .string f, .string nm] w fun e w'=>e = .returned (.tuple #[.string t, .int .i64 0])∧∃ st',Well5 W0 bs fm F v (n+1) st' w':=by
 obtain ⟨L,hA⟩:=h.ex
 obtain ⟨hk,hf8,hn8⟩:=ref_sizes hr
 have hul:=uni_len5 (F:=F) hF.ok h5 f (qK kind f nm).name
 have hS:=ans_spec hF.vo (hF.ok.fault w)
 have hU:=uni_ok (v:=v) hF.ok w hF.vo (f0:=f) (n0:=(qK kind f nm).name) (by unfold BIG;omega) (by unfold BIG;omega)
 obtain ⟨N,st1,hm,hq,hu⟩:=ask_first (M:=3388404099) (nc:=true) hS hU (by decide) (qK_mem hk) h.inv h.idle (by have:=h.kept;unfold BIG;omega) (by
  have h1:(1+(uniF F fs f (qK kind f nm).name).length) * (uniF F fs f (qK kind f nm).name).length≤(1+58209) * 58209:=Nat.mul_le_mul (by omega) hul
  omega) (by have:=h.uses;unfold W64;omega)
 have hE:Eng0 W0 (engM wp (.s cyc_) N) bs fm:=⟨hF.eng bs fm N,engM_act N⟩
 obtain ⟨t',ht',hz⟩:=ans_text (v:=v) hF.ok hF.vo (k:=qK kind f nm) (by show 5≤kind.toNat;omega) (by show f.size≤400;omega)
 rw [ht] at ht'
 cases ht'
 refine (askGood hA kind f nm hr hz (st1:=st1) fun w1 h1=>writeC hE h1 ⟨hk5,hk.2⟩ ht hm).mono ?_
 rintro e w' ⟨rfl,st2,L2,hd,hA2⟩
 have hK:=drops_ok hd hq.inv
 have hb:=fetC_beg (engM_beg wp_gets N) hm (by show kind.toNat≤8;omega) (begOk_nil st)
 refine ⟨rfl,st2,⟨⟨L2,hA2⟩,hK.inv,fun k=>(hK.act k).trans (hq.idle k),by unfold BegOk;rw [hK.began];exact hb,hK.len,?_⟩⟩
 rw [hK.uses]
 have:=h.uses
 omega
end
end Go.Proofs.YthibodlojlkppaaGreatDoor

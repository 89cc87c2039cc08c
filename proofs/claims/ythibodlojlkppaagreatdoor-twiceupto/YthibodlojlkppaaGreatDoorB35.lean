/-
  Ask: what is refused. Ask: it begins. The token that cannot stand is one of the text's. The engine's model: values that are dropped; a question asked, and asked again. Keep: what the heap's Pop does to a row. Keep: the walks of Pop. Keep: heap.Pop; drop. Keep: the engine's state behind it.
-/
import Derived.Test.YthibodlojlkppaaGreatDoorB11
import Derived.Test.YthibodlojlkppaaGreatDoorB17
import Derived.Test.YthibodlojlkppaaGreatDoorB20
import Derived.Test.YthibodlojlkppaaGreatDoorB21
import Derived.Test.YthibodlojlkppaaGreatDoorB23
import Derived.Test.YthibodlojlkppaaGreatDoorB25
set_option linter.unusedVariables false
set_option linter.unusedSectionVars false
set_option linter.unusedSimpArgs false
set_option maxRecDepth 100000
set_option maxHeartbeats 40000000

namespace Go.Proofs.YthibodlojlkppaaGreatDoor
open Go.RowKit
variable [DecidableEq K] [LawfulBEq Lk]
def refX (kind:Int) (f nm:ByteArray):Int :=
 if kind < 1∨8 < kind then 6 else if fileB f=false then 1 else if (5≤kind∧kind≤7)∧nameB nm=false then 1 else 0
theorem needsName_any (kind:Int) (w:World) :
 Calls Tryz.prog 34 #[.int .i64 kind] w fun e w'=>e = .returned (.bool (decide (5≤kind∧kind≤7)))∧w'=w:=by
 by_cases h1:5≤kind
 · by_cases h2:kind≤7
   · have e:decide (5≤kind∧kind≤7)=true:=by simp [h1,h2]
     rw [e]
     go_enter Tryz.func34,Tryz.ntmps34
     go_wp2
     go_ret
     exact ⟨rfl,rfl⟩
   · have e:decide (5≤kind∧kind≤7)=false:=by simp [h2]
     rw [e]
     go_enter Tryz.func34,Tryz.ntmps34
     go_wp2
     go_ret
     exact ⟨rfl,rfl⟩
 · have e:decide (5≤kind∧kind≤7)=false:=by simp [h1]
   rw [e]
   go_enter Tryz.func34,Tryz.ntmps34
   go_wp2
   go_ret
   exact ⟨rfl,rfl⟩
theorem check_any (kind:Int) (f nm:ByteArray) (w:World) :
 Calls Tryz.prog 20 #[.int .i64 kind, .string f, .string nm] w fun e w'=>e = .returned (.int .i64 (refX kind f nm))∧w'=w:=by
 have HF:=hid (isFile_any f w)
 have HN:=hid (isName_all nm w)
 have HNN:=hid (needsName_any kind w)
 by_cases h1:kind < 1
 · have e:refX kind f nm=6:=by simp [refX,h1]
   rw [e]
   go_enter Tryz.func20,Tryz.ntmps20
   go_wp2
   go_ret
   exact ⟨rfl,rfl⟩
 by_cases h2:8 < kind
 · have e:refX kind f nm=6:=by simp [refX,h2]
   rw [e]
   go_enter Tryz.func20,Tryz.ntmps20
   go_wp2
   go_ret
   exact ⟨rfl,rfl⟩
 obtain ⟨a,ha⟩:∃ a,a=fileB f:=⟨_,rfl⟩
 obtain ⟨b,hb⟩:∃ b,b=nameB nm:=⟨_,rfl⟩
 obtain ⟨n,hn⟩:∃ n,n=decide (5≤kind∧kind≤7):=⟨_,rfl⟩
 have hr:refX kind f nm=if a=false then 1 else if n=true∧b=false then 1 else 0:=by
  rw [refX,if_neg (by omega),←ha,←hb,hn];simp
 rw [hr]
 rw [←ha] at HF
 rw [←hb] at HN
 rw [←hn] at HNN
 clear ha hb hn hr
 cases a with
 | false =>
  simp only [if_true]
  go_enter Tryz.func20,Tryz.ntmps20
  go_wp2_with fail
  refine HF.out.mono ?_
  rintro e w1 ⟨rfl,rfl⟩
  go_wp2
  go_ret
  exact ⟨rfl,rfl⟩
 | true =>
  cases n with
  | false =>
   simp only [Bool.false_eq_true,false_and,if_false]
   go_enter Tryz.func20,Tryz.ntmps20
   go_wp2_with fail
   refine HF.out.mono ?_
   rintro e w1 ⟨rfl,rfl⟩
   go_wp2_with fail
   refine HNN.out.mono ?_
   rintro e w1 ⟨rfl,rfl⟩
   go_wp2
   go_ret
   exact ⟨rfl,rfl⟩
  | true =>
   cases b with
   | false =>
    simp only [true_and,if_true]
    go_enter Tryz.func20,Tryz.ntmps20
    go_wp2_with fail
    refine HF.out.mono ?_
    rintro e w1 ⟨rfl,rfl⟩
    go_wp2_with fail
    refine HNN.out.mono ?_
    rintro e w1 ⟨rfl,rfl⟩
    go_wp2_with fail
    refine HN.out.mono ?_
    rintro e w1 ⟨rfl,rfl⟩
    go_wp2
    go_ret
    exact ⟨rfl,rfl⟩
   | true =>
    simp only [Bool.true_eq_false,and_false,if_false]
    go_enter Tryz.func20,Tryz.ntmps20
    go_wp2_with fail
    refine HF.out.mono ?_
    rintro e w1 ⟨rfl,rfl⟩
    go_wp2_with fail
    refine HNN.out.mono ?_
    rintro e w1 ⟨rfl,rfl⟩
    go_wp2_with fail
    refine HN.out.mono ?_
    rintro e w1 ⟨rfl,rfl⟩
    go_wp2
    go_ret
    exact ⟨rfl,rfl⟩
theorem TB_sess {k:K}:TB k≠66:=by
 unfold TB
 repeat' split
 all_goals decide
theorem ENG.beginS {st:St V} {L:Lay} {lp:Option K} {bs:Nat} {fm:Value} {w:World} (h:ENG st L lp bs fm w):ENG { st with began:=[] } L lp bs fm (w.setCell ⟨bs,4,none⟩ (.slice none 0 0))∧Next st { st with began:=[] } L L w (w.setCell ⟨bs,4,none⟩ (.slice none 0 0)):=by
 obtain ⟨q,sm,bg,kv,arr,h⟩:=h
 have hfr:FR L.own w (w.setCell ⟨bs,4,none⟩ (.slice none 0 0)):=⟨rfl,rfl,rfl,by simp,fun b hb hn=>heap_setCell_ne (fun e=>hn (by rw [e];exact h.bo)) _⟩
 have hcs:∀ (b:Nat) (cs:Array Value) (T:TypeId),T≠66→w.heap[b]? = some (.cells cs T)→(w.setCell ⟨bs,4,none⟩ (.slice none 0 0)).heap[b]? = some (.cells cs T):=fun b cs T h1 hb=>by
  refine (heap_setCell_ne (fun e => ?_) _).trans hb
  rw [e,h.s] at hb;injection hb with hb;injection hb with _ hb;exact h1 hb.symm
 have hmp:∀ (b:Nat) (es:Array MapEntry) (n:Nat),w.heap[b]? = some (.map es n)→(w.setCell ⟨bs,4,none⟩ (.slice none 0 0)).heap[b]? = some (.map es n):=fun b es n hb=>by
  refine (heap_setCell_ne (fun e => ?_) _).trans hb
  rw [e,h.s] at hb;injection hb with hb;cases hb
 refine ⟨⟨q,sm, .slice none 0 0,kv,arr,⟨⟨heap_setCell_lit (i:=4) h.s _,h.bo,fun b hb=>by simpa using h.olt b hb,h.sr.keep hmp,fun f c hf=>⟨(h.srb f c hf).1,hcs _ _ _ (by decide) (h.srb f c hf).2⟩,h.sri,h.qm,h.sm.keep hmp,⟨World.ownsRow_nil _ _ _ _,fun g hg=>by simp [Value.ownBlock] at hg⟩,h.kv.keep fun b cs=>hcs b cs _ (by decide),h.perm,h.nd,h.kl,h.ex,fun j n hj => ?_⟩,h.heap⟩⟩,⟨fun _ h=>⟨h,rfl⟩,fun _ h=>⟨h,rfl⟩,fun b hb => .inl hb,hfr⟩⟩
 have hc:=h.cell j n hj
 obtain ⟨x,vs,a,b⟩:=hc.ex
 exact ⟨⟨x,vs,hcs _ _ _ TB_sess a,b.next hfr fun i h => .inl h⟩,hc.own⟩
theorem beginC {st:St V} {L:Lay} {lp:Option K} {bs:Nat} {fm:Value} {w:World} (h:ENG st L lp bs fm w) :
 Calls Tryz.prog 19 #[ptr bs] w fun e w'=>e = .returned (.tuple #[])∧Hid (ENG { st with began:=[] } L lp bs fm w'∧Next st { st with began:=[] } L L w w'):=by
 obtain ⟨q,sm,bg,kv,arr,hx⟩:=id h
 have c4:w.cell? ⟨bs,4,none⟩=some bg:=heap_cell (i:=4) hx.s
 have f4:w.frozen? ⟨bs,4,none⟩=false:=heap_frozen hx.s
 have H:=hid h.beginS
 clear h hx
 go_enter Tryz.func19,Tryz.ntmps19
 go_wp2
 go_end0
 exact ⟨rfl,H⟩
theorem callsEx {P:Program} {f:FuncId} {args:Array Value} {w:World} {R:Ending→World→Prop} (h:Calls P f args w R):∃ e w',R e w':=by
 obtain ⟨e,w',_,hr,_⟩:=h []
 exact ⟨e,w',hr⟩
theorem itemP_lt {toks:List Tok} (hw:Wf toks) (w:World) {a:Nat} (ha:a < toks.length):(itemP toks a).1 < toks.length:=by
 have h1:=new_heap w (.cells (tokCells toks).toArray 121)
 have h2:=new_heap (w.alloc (.cells (tokCells toks).toArray 121)) (.cells #[.slice (some ⟨w.heap.size,0,none⟩) toks.length toks.length, .int .i64 a, .int .i64 0] 224)
 have h3:=old_heap (.cells #[.slice (some ⟨w.heap.size,0,none⟩) toks.length toks.length, .int .i64 a, .int .i64 0] 224) h1
 have hP:PS toks (w.alloc (.cells (tokCells toks).toArray 121)).heap.size w.heap.size toks.length a 0 ((w.alloc (.cells (tokCells toks).toArray 121)).alloc (.cells #[.slice (some ⟨w.heap.size,0,none⟩) toks.length toks.length, .int .i64 a, .int .i64 0] 224)).heap :=
  ⟨by simp,by rw [h2];rfl,_,h3,by
   have:(tokCells toks).length=3 * toks.length:=tokCells_length toks
   simp [←this]⟩
 obtain ⟨_,_,hx⟩:=callsEx (item_any hw _ _ _ a _ ha hP)
 exact hx.2.2.1
theorem treeP_fault {toks:List Tok} (hw:Wf toks) (w:World):∀ (f a b:Nat),a < toks.length→(treeP toks f a).2=some b→b < toks.length
 | 0,_,_,_,h=>by simp [treeP] at h
 | f+1,a,b,ha,h=>by
  have hlt:=itemP_lt hw w ha
  unfold treeP at h
  split at h
  · simp at h
  · split at h
    · rename_i c hip
      rw [hip] at hlt
      simp at h
      subst h
      exact hlt
    · rename_i c i hip
      rw [hip] at hlt
      exact treeP_fault hw w f c b hlt h
theorem treeX_fault {toks:List Tok} (hw:Wf toks) (w:World) (b:Nat) (h:(treeX toks).2=some b):b < toks.length:=by
 have e:=tree_enc toks
 have:(treeAll toks).2=some b:=by rw [e];exact h
 exact treeP_fault hw w _ _ b hw.pos this
end Go.Proofs.YthibodlojlkppaaGreatDoor
namespace Go.Proofs.YthibodlojlkppaaGreatDoor
variable [DecidableEq K] [LawfulBEq Lk]
section
variable {V:Type} {wp:K→Prog V} {lp:V} {F:Txt} {a:K→V} {U:List K} {M Q:Nat}
def St.drop (st:St V) (k:K):St V :=
 match st.sl k with
 | none=>st
 | some m => { st.put k { m with val:=none } with kept:=st.kept.erase k }
def usd (st:St V) (k:K):Nat:=((st.sl k).map (·.used)).getD 0
def DropsN (n:Nat):Nat→St V→St V→Prop
 | 0,st,st'=>st.kept.length≤n∧st=st'
 | m+1,st,st' => ∃ k,n < st.kept.length∧k∈st.kept∧(∀ j∈st.kept,usd st k≤usd st j)∧DropsN n m (st.drop k) st'
def Drops (n:Nat) (st st':St V):Prop:=∃ m,DropsN n m st st'
theorem Drops.done {n:Nat} {st:St V} (h:st.kept.length≤n):Drops n st st:=⟨0,h,rfl⟩
theorem Drops.more {n:Nat} {st st':St V} {k:K} (h1:n < st.kept.length) (h2:k∈st.kept) (h3:∀ j∈st.kept,usd st k≤usd st j) (h:Drops n (st.drop k) st'):Drops n st st':=by
 obtain ⟨m,hm⟩:=h
 exact ⟨m+1,k,h1,h2,h3,hm⟩
theorem Drops.ind {n:Nat} {P:St V→St V→Prop} (g1:∀ st,st.kept.length≤n→P st st) (g2:∀ st st' k,n < st.kept.length→k∈st.kept→(∀ j∈st.kept,usd st k≤usd st j)→P (st.drop k) st'→P st st') {st st':St V} (h:Drops n st st'):P st st':=by
 obtain ⟨m,hm⟩:=h
 revert st
 induction m with
 | zero=>intro st hm;obtain ⟨a,rfl⟩:=hm;exact g1 _ a
 | succ m ih =>
  intro st hm
  obtain ⟨k,a,b,c,d⟩:=hm
  exact g2 _ _ k a b c (ih d)
theorem Inv.drop {st:St V} (h:Inv F a st) {k:K} (hk:k∈st.kept):Inv F a (st.drop k)∧(∀ j,actB (st.drop k) j=actB st j)∧(st.drop k).uses=st.uses∧(st.drop k).began=st.began∧(st.drop k).kept=st.kept.erase k∧(∀ j,j≠k→(st.drop k).sl j=st.sl j)∧(st.drop k).rev=st.rev:=by
 obtain ⟨m,x,hm,hx⟩:=(h.kp k).1 hk
 have e:st.drop k = { st.put k { m with val:=none } with kept:=st.kept.erase k }:=by simp [St.drop,hm]
 have hsl:∀ j,(st.drop k).sl j=if j=k then some { m with val:=none } else st.sl j:=fun j=>by rw [e];rfl
 have hmo:=h.mem k m hm
 refine ⟨⟨by rw [e];exact h.files,fun j n hj => ?_,fun j => ?_,?_⟩,fun j => ?_,by rw [e];rfl,by rw [e];rfl,by rw [e],fun j hj=>by rw [hsl,if_neg hj],by rw [e];rfl⟩
 · have h3:(st.drop k).rev=st.rev∧(st.drop k).uses=st.uses:=by rw [e];exact ⟨rfl,rfl⟩
   rw [hsl] at hj
   rw [h3.1,h3.2]
   by_cases hjk:j=k
   · rw [if_pos hjk] at hj
     cases hj
     subst hjk
     exact ⟨fun _=>rfl,hmo.v1,fun x hx=>by simp at hx,hmo.us⟩
   · rw [if_neg hjk] at hj
     exact h.mem j n hj
 · have h3:(st.drop k).kept=st.kept.erase k:=by rw [e]
   rw [h3,hsl,h.nd.mem_erase_iff]
   by_cases hjk:j=k
   · subst hjk
     rw [if_pos rfl]
     constructor
     · rintro ⟨h1,_⟩;exact absurd rfl h1
     · rintro ⟨m1,y,h1,hy⟩;cases h1;simp at hy
   · rw [if_neg hjk,←h.kp j]
     exact ⟨fun h1=>h1.2,fun h1=>⟨hjk,h1⟩⟩
 · have h3:(st.drop k).kept=st.kept.erase k:=by rw [e]
   rw [h3];exact h.nd.erase k
 · unfold actB
   rw [hsl]
   by_cases hjk:j=k
   · subst hjk;rw [if_pos rfl,hm]
   · rw [if_neg hjk]
theorem drop_same (st:St V) (k:K):(st.drop k).files=st.files∧(st.drop k).src=st.src∧(∀ j,(st.drop k).sl j=none↔st.sl j=none)∧(st.drop k).began=st.began:=by
 unfold St.drop
 cases hk:st.sl k with
 | none=>exact ⟨rfl,rfl,fun _=>Iff.rfl,rfl⟩
 | some m =>
  refine ⟨rfl,rfl,fun j => ?_,rfl⟩
  by_cases hj:j=k
  · subst hj;simp [St.put,hk]
  · simp [St.put,hj]
theorem drops_same {n:Nat} {st st':St V} (hd:Drops n st st'):st'.files=st.files∧st'.src=st.src∧(∀ j,st'.sl j=none↔st.sl j=none)∧st'.began=st.began:=by
 refine Drops.ind (P:=fun st st'=>st'.files=st.files∧st'.src=st.src∧(∀ j,st'.sl j=none↔st.sl j=none)∧st'.began=st.began) ?_ ?_ hd
 · exact fun _ _=>⟨rfl,rfl,fun _=>Iff.rfl,rfl⟩
 · intro st st' k _ _ _ ih
   obtain ⟨a,b,c,d⟩:=drop_same st k
   exact ⟨ih.1.trans a,ih.2.1.trans b,fun j=>(ih.2.2.1 j).trans (c j),ih.2.2.2.trans d⟩
structure Kpt (F:Txt) (a:K→V) (n:Nat) (st st':St V):Prop where
 inv:Inv F a st'
 act:∀ j,actB st' j=actB st j
 uses:st'.uses=st.uses
 began:st'.began=st.began
 len:st'.kept.length≤n
 last:∀ k,Last st k→1≤n→Last st' k
 rev:st'.rev=st.rev
theorem drops_ok {n:Nat} {st st':St V} (hd:Drops n st st'):Inv F a st→Kpt F a n st st':=by
 refine Drops.ind (P:=fun st st'=>Inv F a st→Kpt F a n st st') ?_ ?_ hd
 · exact fun st h hi=>⟨hi,fun _=>rfl,rfl,rfl,h,fun _ h _=>h,rfl⟩
 · intro st st' k h1 h2 h3 ih hi
   obtain ⟨a1,a2,a3,a4,a5,a6,a7⟩:=hi.drop h2
   have g:=ih a1
   refine ⟨g.inv,fun j=>(g.act j).trans (a2 j),g.uses.trans a3,g.began.trans a4,g.len,fun j hj hn=>g.last j ?_ hn,g.rev.trans a7⟩
   obtain ⟨m,e1,e2,e3,e4,e5⟩:=hj
   have hjk:j≠k:=by
    rintro rfl
    obtain ⟨i,hi1,hi2⟩:∃ i∈st.kept,i≠j:=by
     have hl:2≤st.kept.length:=by omega
     have hnd:=hi.nd
     match st.kept,hl,hnd with
     | x :: y :: l,_,hnd =>
      by_cases hx:x=j
      · refine ⟨y,by simp,fun e => ?_⟩
        rw [List.nodup_cons] at hnd
        exact hnd.1 (by rw [hx,←e];simp)
      · exact ⟨x,by simp,hx⟩
    obtain ⟨mi,xi,ei,_⟩:=(hi.kp i).1 hi1
    have h4:=h3 i hi1
    have h5:=e5 i mi hi2 ei
    simp only [usd,e1,ei,Option.map_some,Option.getD_some] at h4
    omega
   refine ⟨m,by rw [a6 j hjk];exact e1,by rw [a3];exact e2,by rw [a7];exact e3,by rw [a5];exact (hi.nd.mem_erase_iff).2 ⟨hjk,e4⟩,fun i mi hij hsi => ?_⟩
   rw [a3]
   by_cases hik:i=k
   · subst hik
     obtain ⟨m0,x0,e0,_⟩:=(hi.kp i).1 h2
     have h4:=a1.mem i mi hsi
     have h5:=e5 i m0 hij e0
     have:mi.used=m0.used:=by
      have:(st.drop i).sl i=some { m0 with val:=none }:=by simp [St.drop,e0,St.put]
      rw [this] at hsi;cases hsi;rfl
     omega
   · rw [a6 i hik] at hsi
     exact e5 i mi hij hsi
def Idle (st:St V):Prop:=∀ k,actB st k=false
structure Asked (F:Txt) (a:K→V) (k:K) (st':St V):Prop where
 inv:Inv F a st'
 last:Last st' k
 idle:Idle st'
theorem Inv.beg {st:St V} (h:Inv F a st):Inv F a { st with began:=[] }:=⟨h.files,h.mem,h.kp,h.nd⟩
theorem Last.val {st:St V} {k:K} (h:Last st k) (hi:Inv F a st):st.val k=some (a k):=by
 obtain ⟨m,e1,e2,e3,e4,e5⟩:=h
 exact hi.valNow e4
theorem ask_first (hS:Spec wp lp F a) (hU:Uni wp F a U Q) (hM:M≤BIG) {k:K} (hk:k∈U) {st:St V} (hi:Inv F a st) (hid:Idle st) (hkl:st.kept.length+U.length < BIG) (hm:(1+U.length) * U.length+U.length≤M) (hu:st.uses+Q * M+1 < W64) (nc:Bool) :
 ∃ n st1,fetC (engM wp lp n) nc k [] { st with began:=[] }=some (.ok (a k,[.slot k]),st1)∧Asked F a k st1∧st1.uses≤st.uses+Q * M+1:=by
 have hi0:=hi.beg
 obtain ⟨f1,f2,f3,f4,f5,f6⟩:=hi0.find k
 have hact:∀ c,actB (({ st with began:=[] }:St V).find k) c=false:=fun c=>(f2.actB c).trans (hid c)
 have hun:Und U (({ st with began:=[] }:St V).find k)≤U.length:=List.countP_le_length
 have hin:Ina U (({ st with began:=[] }:St V).find k)≤U.length:=List.countP_le_length
 have hP:Pcd F a U M Q (({ st with began:=[] }:St V).find k):=by
  refine ⟨f1,?_,?_,?_⟩
  · have h7:(1+U.length) * Und U (({ st with began:=[] }:St V).find k)≤(1+U.length) * U.length:=Nat.mul_le_mul_left _ hun
    rw [psi_eq,f4]
    simp only [List.length_nil]
    omega
  · unfold KB;rw [f5];show st.kept.length+_ < BIG;omega
  · rw [us_eq,f6,f4];simpa using hu
 obtain ⟨out,st1,e,hp,hus,hout⟩:=eng_ok hS hU hM (Ina U (({ st with began:=[] }:St V).find k)+1) k _ hP hk f3 (fun c hc=>by rw [hact] at hc;cases hc) (by omega)
 have hsz:=hU.sz k hk
 cases out with
 | error c =>
  have h4:=hout.2.2.2.1
  rw [hact] at h4;cases h4
 | ok r =>
  obtain ⟨h1,h2⟩:=hout
  refine ⟨Ina U (({ st with began:=[] }:St V).find k)+1,st1,?_,⟨hp.inv,h2,fun c=>(hp.mono.actB c).trans (hact c)⟩,?_⟩
  · unfold fetC
    rw [if_neg (by omega),if_neg (by simp),e]
    simp [h2.val hp.inv,BIG]
  · rw [us_eq,us_eq,f6,f4] at hus
    have:st1.uses≤st1.uses+Q * (M - st1.began.length):=Nat.le_add_right _ _
    simp at hus
    omega
end
end Go.Proofs.YthibodlojlkppaaGreatDoor
namespace Go.Proofs.YthibodlojlkppaaGreatDoor
open Go.RowKit
variable [DecidableEq K] [LawfulBEq Lk]
section
variable {α:Type} [DecidableEq α]
theorem downL_ge {u:α→Nat} {n:Nat}:∀ (f:Nat) (l:List α) (i j:Nat),n≤l.length→n≤j→(downL u n f l i).1[j]? = l[j]?
 | 0,l,i,j,_,_=>rfl
 | f+1,l,i,j,hl,hj=>by
  unfold downL
  by_cases hn:n≤2 * i+1
  · rw [if_pos hn]
  · rw [if_neg hn]
    obtain ⟨hcn,hic,_⟩:=child_lt (used:=u) (l:=l) hn
    split
    · rw [downL_ge f _ _ j (by rw [swapL_len];exact hl) hj,swapL_get (by omega) (by omega),if_neg (by omega),if_neg (by omega)]
    · rfl
theorem heap_top {u:α→Nat} {l:List α} (h:HN u l l.length):∀ i,i < l.length→uat u l 0≤uat u l i:=by
 intro i
 induction i using Nat.strongRecOn with
 | _ i ih =>
  intro hi
  by_cases h0:i=0
  · subst h0;exact Nat.le_refl _
  · have hp:par i < i:=by unfold par;omega
    exact Nat.le_trans (ih (par i) hp (by omega)) (h i hi)
def popL (u:α→Nat) (l:List α):List α:=(downL u (l.length - 1) (l.length - 1) (swapL l 0 (l.length - 1)) 0).1
theorem popL_len (u:α→Nat):∀ (l:List α),(popL u l).length=l.length:=by
 intro l
 have key:∀ (n f:Nat) (l:List α) (i:Nat),(downL u n f l i).1.length=l.length:=by
  intro n f
  induction f with
  | zero=>intro l i;rfl
  | succ f ih =>
   intro l i
   unfold downL
   split
   · rfl
   · split
     · rw [ih,swapL_len]
     · rfl
 unfold popL
 rw [key,swapL_len]
theorem popL_last {u:α→Nat} {l:List α} {n:Nat} (hn:l.length=n+1):(popL u l)[n]? = l[0]?:=by
 unfold popL
 rw [hn,show n+1 - 1=n from rfl,downL_ge _ _ _ _ (by rw [swapL_len];omega) (Nat.le_refl _),swapL_get (by omega) (by omega),if_pos rfl]
theorem popL_split {u:α→Nat} {l:List α} {n:Nat} {k:α} (hn:l.length=n+1) (hk:l[0]? = some k):popL u l=(popL u l).take n ++ [k]∧((popL u l).take n).length=n:=by
 have h1:=popL_last (u:=u) hn
 rw [hk] at h1
 have h2:=popL_len u l
 obtain ⟨a,b⟩:=List.getElem?_eq_some_iff.1 h1
 have h3:(popL u l).drop n = [k]:=by
  rw [List.drop_eq_getElem_cons a,b]
  simp [h2,hn]
 refine ⟨?_,by rw [List.length_take];omega⟩
 conv=>lhs;rw [←List.take_append_drop n (popL u l),h3]
theorem popL_heap {u:α→Nat} {l:List α} {n:Nat} (hn:l.length=n+1) (h:HN u l l.length):HN u ((popL u l).take n) n:=by
 by_cases h0:n=0
 · subst h0;intro i hi;omega
 have key:HN u (popL u l) n:=by
  unfold popL
  rw [hn,show n+1 - 1=n from rfl]
  have hu:=fun k=>uat_swap (used:=u) (l:=l) (i:=0) (j:=n) (by omega) (by omega) k
  refine down_ok n _ 0 (by rw [swapL_len];omega) (by omega) (by omega) (fun k hk hk0 hp => ?_) (fun c _ _ _ h0=>absurd rfl h0)
  have hpk:par k≠n:=by unfold par;omega
  rw [hu k,hu (par k),if_neg hpk,if_neg hp,if_neg (show ¬ k=n by omega),if_neg hk0]
  exact h k (by omega)
 intro i hi
 have ht:∀ j,j < n→uat u ((popL u l).take n) j=uat u (popL u l) j:=fun j hj=>by
  unfold uat
  rw [List.getElem?_take_of_lt hj]
 have hp:par i < n:=by unfold par;omega
 rw [ht i hi,ht (par i) hp]
 exact key i hi
end
theorem ENGp.popped {st:St V} {L:Lay} {lp:Option K} {bs kb n c:Nat} {fm q sm bg:Value} {l:List K} {k:K} {m:Memo V} {w w':World} (h:ENGp st L lp bs fm q sm bg (.slice (some ⟨kb,0,none⟩) (n+1) c) (l ++ [k]) w) (hl:l.length=n) (hm:st.sl k=some m)
 (hb:∀ b,b≠bs→b≠kb→b≠L.bk k→w'.heap[b]? = w.heap[b]?) (hs:w'.heap.size=w.heap.size)
 (hS:w'.heap[bs]? = some (.cells #[fm, .int .i64 st.rev,q,sm,bg, .slice (some ⟨kb,0,none⟩) n c, .int .u64 st.uses] 66))
 (hK:∃ v,w'.heap[kb]? = (w.setCell ⟨kb,n,none⟩ v).heap[kb]?) (hP:∀ T xs,SB w (L.bk k) T xs→SB w' (L.bk k) T (xs.set 10 (.int .i64 (-1)))) :
 ENGp { st with kept:=st.kept.erase k } L lp bs fm q sm bg (.slice (some ⟨kb,0,none⟩) n c) l w':=by
 obtain ⟨how,hin⟩:=h.kv
 have hkb:L.own kb:=hin kb rfl
 obtain ⟨hll,⟨h1,h0⟩ | ⟨g,cap,cur,h1,h2,h3,h4,h5,h6,h7⟩⟩:=id how
 · simp at h1
 simp only [Value.slice.injEq,Option.some.injEq,Addr.mk.injEq,and_true] at h1
 obtain ⟨rfl,_,rfl⟩:=h1
 have hnd:=List.nodup_append.1 h.nd
 have hkl:k ∉ l:=fun e=>hnd.2.2 k e k (by simp) rfl
 have hcs:∀ (b:Nat) (cs:Array Value) (T:TypeId),w.heap[b]? = some (.cells cs T)→T≠94→T≠66→T≠TB k→w'.heap[b]? = some (.cells cs T):=fun b cs T hbb t1 t2 t3=>by
  obtain ⟨x,vs,a,_⟩:=(h.cell k m hm).ex
  rw [hb b (fun e => ?_) (fun e => ?_) (fun e => ?_)]
  · exact hbb
  · rw [e,h.s] at hbb;injection hbb with hbb;injection hbb with _ hbb;exact t2 hbb.symm
  · rw [e,h3] at hbb;injection hbb with hbb;injection hbb with _ hbb;exact t1 hbb.symm
  · rw [e,a] at hbb;injection hbb with hbb;injection hbb with _ hbb;exact t3 hbb.symm
 have hmp:∀ (b:Nat) (es:Array MapEntry) (n:Nat),w.heap[b]? = some (.map es n)→w'.heap[b]? = some (.map es n):=fun b es n hbb=>by
  obtain ⟨x,vs,a,_⟩:=(h.cell k m hm).ex
  rw [hb b (fun e => ?_) (fun e => ?_) (fun e => ?_)]
  · exact hbb
  · rw [e,h.s] at hbb;injection hbb with hbb;cases hbb
  · rw [e,h3] at hbb;injection hbb with hbb;cases hbb
  · rw [e,a] at hbb;injection hbb with hbb;cases hbb
 have hout:∀ (b:Nat) (o:Obj),¬ L.own b→w.heap[b]? = some o→w'.heap[b]? = some o:=fun b o hn hbb=>by
  rw [hb b (fun e=>hn (e ▸ h.bo)) (fun e=>hn (e ▸ hkb)) (fun e=>hn (e ▸ (h.cell k m hm).own))]
  exact hbb
 have hT:=TB_ne (k:=k)
 have hkv:OwnRow L.own w' 94 1 (.slice (some ⟨kb,0,none⟩) n c) n (l.map (slotV L)):=by
  obtain ⟨v,hv⟩:=hK
  rw [heap_setCell_lit h3 v] at hv
  refine ⟨⟨by simp [hl], .inr ⟨kb,c,_,rfl,h2,hv,by omega,h5,by simp [h6],?_⟩⟩,fun g hg=>hin g hg⟩
  have h8:(cur.toList.take (n * 1))=l.map (slotV L):=by
   have:(cur.toList.take ((n+1) * 1)).take (n * 1)=l.map (slotV L):=by
    rw [show (l ++ [k]).length=n+1 by simp [hl]] at h7
    rw [h7,List.map_append,List.take_append_of_le_length (by simp [hl]),List.take_of_length_le (by simp [hl])]
   rw [List.take_take] at this
   rw [←this]
   congr 1
   omega
  rw [←h8]
  simp only [Nat.mul_one,Array.toList_setIfInBounds]
  rw [List.take_set,List.set_eq_of_length_le (by simp;omega)]
 refine ⟨hS,h.bo,fun b hbo=>by rw [hs];exact h.olt b hbo,h.sr.keep hmp,fun f c hf=>⟨(h.srb f c hf).1,hcs _ _ _ (h.srb f c hf).2 (by decide) (by decide) hT.2.1.symm⟩,h.sri,h.qm,h.sm.keep hmp,h.bg.keep fun b cs hbo=>hcs b cs _ hbo (by decide) (by decide) hT.2.2.1.symm,by rw [hl];exact hkv,?_,hnd.1,Nat.le_trans (List.length_erase_le ..) h.kl,fun j hj=>h.ex j (List.mem_append_left _ hj),fun j mj hj => ?_⟩
 · have:=h.perm.erase k
   rw [List.erase_append_right _ hkl] at this
   simpa using this
 · have hc:=h.cell j mj hj
   obtain ⟨x,vs,a,d⟩:=hc.ex
   refine ⟨⟨x,vs,?_,d.keep hout⟩,hc.own⟩
   by_cases hjk:j=k
   · subst hjk
     have:=hP _ _ a
     rw [show plc l j = -1 by simp [plc,hkl]]
     exact this
   · rw [←plc_new (arr:=l) (k:=k) (j:=j) (.inr hjk)]
     have hTj:=TB_ne (k:=j)
     have e1:L.bk j≠bs:=fun e=>by
      have:=a;rw [SB,e,h.s] at this;injection this with this;injection this with _ this;exact hTj.1 this.symm
     have e2:L.bk j≠kb:=fun e=>by
      have:=a;rw [SB,e,h3] at this;injection this with this;injection this with _ this;exact hTj.2.2.2 this.symm
     have e3:L.bk j≠L.bk k:=fun e=>hjk (h.bk_inj (by rw [hj];simp) (by rw [hm];simp) e)
     exact (hb _ e1 e2 e3).trans a
structure SameH (w w':World):Prop where
 os:w'.os=w.os
 tape:w'.tape=w.tape
 output:w'.output=w.output
 heap:w'.heap=w.heap
def popW (w:World) (bs kb n c p:Nat):World:=((w.setCell ⟨kb,n,none⟩ .nilIface).setCell ⟨bs,5,none⟩ (.slice (some ⟨kb,0,none⟩) n c)).setCell ⟨p,10,none⟩ (.int .i64 (-1))
theorem pop_any {w:World} {bs kb n c p:Nat} {pl:Int} (T:TypeId) (F:FuncId) (hM:MT T F) (h5:w.cell? ⟨bs,5,none⟩=some (.slice (some ⟨kb,0,none⟩) (n+1) c)) (f5:w.frozen? ⟨bs,5,none⟩=false)
 (hk:w.cell? ⟨kb,n,none⟩=some (.iface T (.pointer (some ⟨p,0,none⟩)))) (fk:w.frozen? ⟨kb,n,none⟩=false) (hp:w.cell? ⟨p,10,none⟩=some (.int .i64 pl)) (fp:w.frozen? ⟨p,10,none⟩=false)
 (h1:kb≠bs) (h2:p≠bs) (h3:p≠kb) (hn:n < 1099511627776) (hc:n+1≤c) :
 Calls Tryz.prog 213 #[.pointer (some ⟨bs,5,none⟩)] w fun e w'=>e = .returned (.iface T (.pointer (some ⟨p,0,none⟩)))∧SameH (popW w bs kb n c p) w':=by
 have m1:=hM.common
 have m2:=hM.ncommon
 have g5:(w.setCell ⟨kb,n,none⟩ .nilIface).cell? ⟨bs,5,none⟩=some (.slice (some ⟨kb,0,none⟩) (n+1) c):=(World.cell?_setCell_other _ _ _ _ (by intro e;injection e with e2;exact h1 e2)).trans h5
 have e5:(w.setCell ⟨kb,n,none⟩ .nilIface).drew.cell? ⟨bs,5,none⟩=some (.slice (some ⟨kb,0,none⟩) (n+1) c):=g5
 have gp:((w.setCell ⟨kb,n,none⟩ .nilIface).setCell ⟨bs,5,none⟩ (.slice (some ⟨kb,0,none⟩) n c)).cell? ⟨p,10,none⟩=some (.int .i64 pl):=((World.cell?_setCell_other _ _ _ _ (by intro e;injection e with e2;exact h2 e2.symm)).trans (World.cell?_setCell_other _ _ _ _ (by intro e;injection e with e2;exact h3 e2.symm))).trans hp
 have gf:((w.setCell ⟨kb,n,none⟩ .nilIface).setCell ⟨bs,5,none⟩ (.slice (some ⟨kb,0,none⟩) n c)).frozen? ⟨p,10,none⟩=false:=by simpa using fp
 have e0:((n:Int)+1) - 1=(n:Int):=by omega
 have hn0:(0:Int)≤(n:Int):=by omega
 have hn1:(n:Int) < (n:Int)+1:=by omega
 have hn2:(n:Int)+1≤1099511627776:=by omega
 have hn3:((n+1:Nat):Int)=(n:Int)+1:=by omega
 go_enter Tryz.func213,Tryz.ntmps213
 go_wp2_with (go_at_call 219;refine (common_any p _).mono ?_;rintro e w1 ⟨rfl,rfl⟩)
 go_ret
 exact ⟨rfl,rfl,rfl,rfl,rfl⟩
theorem hpop {bs kb c n:Nat} {L:Lay} {u:K→Nat} {arr:List K} {k:K} {w:World} (h:HPx bs kb c L u arr w) (hn:arr.length=n+1) (hk:arr[0]? = some k) (f5:w.frozen? ⟨bs,5,none⟩=false) (hc:n+1≤c) (hbs:bs < w.heap.size) :
 Calls Tryz.prog 48 #[heapV bs] w fun e w'=>e = .returned (slotV L k)∧∃ w1,HT bs kb c L u arr w (popL u arr) w1∧SameH (popW w1 bs kb n c (L.bk k)) w':=by
 have hll:=h.lenI
 have m1:=lenMeth bs _ w h.v
 have m2:=lenNil bs w
 have m3:=entLen
 have HLN:=hid (len_any (some ⟨kb,0,none⟩) arr.length c w)
 have m4:=swapMeth bs _ w h.v
 have m5:=swapNil bs
 have m6:=entSwap
 have HW:=hid (hswap h 0 n (by omega) (by omega))
 have HH:=hid h
 have HN:=hid hn
 have HK:=hid hk
 have HF:=hid f5
 have HC:=hid hc
 have HBS:=hid hbs
 have hn0:(0:Int)≤(n:Int):=by omega
 have hn1:(n:Int)+1≤1099511627776:=by rw [hn] at hll;omega
 have e0:((n:Int)+1) - 1=(n:Int):=by omega
 have hn3:((n+1:Nat):Int)=(n:Int)+1:=by omega
 rw [hn] at m1 m4 HLN HW
 clear h hn hk f5 hc hll hbs
 unfold heapV slotV at *
 go_enter Tryz.func48,Tryz.ntmps48
 go_wp2_with fail
 refine HLN.out.mono ?_
 rintro e w1 ⟨rfl,rfl⟩
 clear m1 m2 m3 HLN
 go_wp2_with fail
 refine HW.out.mono ?_
 rintro e w2 ⟨rfl,h1,h2⟩
 clear m4 m5 m6
 have HS:=hid ((HT.refl HH.out).swap h1 h2)
 clear h1 h2
 have HD:=hid (hdown HS.out.hp 0 n (by rw [swapL_len];have:=HN.out;omega) (Nat.zero_le _))
 unfold heapV at HD
 go_wp2_with fail
 refine HD.out.mono ?_
 rintro e w3 ⟨rfl,hh⟩
 have HT3:Hid (HT bs kb c L u arr w1 (popL u arr) w3):=hid (by
  have hp:popL u arr=(downL u n n (swapL arr 0 n) 0).1:=by unfold popL;rw [HN.out];rfl
  rw [hp]
  exact ⟨hh.hp,HS.out.pf.trans hh.pf fun k=>HS.out.perm.mem_iff,hh.perm.trans HS.out.perm⟩)
 clear hh HD HS
 have hlast:=popL_last (u:=u) HN.out
 rw [HK.out] at hlast
 obtain ⟨F,hM⟩:=isT_TI k
 obtain ⟨T,xs,t1,t2,_⟩:=HT3.out.hp.pl n k hlast
 have hmem:=List.mem_of_getElem? hlast
 have hne:=HT3.out.hp.ne k hmem
 have hv:=HT3.out.hp.v
 rw [popL_len,HN.out] at hv
 have hf5:w3.frozen? ⟨bs,5,none⟩=false:=by
  have:=HF.out
  rw [←this]
  exact World.frozen?_of_block (w:=w1) (HT3.out.pf.far bs HBS.out (Ne.symm HT3.out.hp.kbs) fun j hj e=>(HH.out.ne j hj).2 e.symm)
 have HP:=hid (pop_any (TI k) F hM hv hf5 (HT3.out.hp.cell hlast) (HT3.out.hp.fr n) (t1.cell t2) (t1.fr 10) HT3.out.hp.kbs hne.2 hne.1 (by omega) HC.out)
 have m7:=popMeth bs
 have m8:=popNil bs
 have m9:=entPop
 clear hlast hM t1 t2 hmem hne hv hf5
 go_wp2_with fail
 refine HP.out.mono ?_
 rintro e w4 ⟨rfl,hs⟩
 have HSM:=hid hs
 clear hs
 go_wp2
 go_ret
 exact ⟨rfl,w3,HT3.out,HSM.out⟩
def drF (kind:Nat):FuncId:=if kind=2 then 231 else if kind=3 then 236 else if kind=4 then 241 else 220
theorem drS_m (p:Nat) (w:World):(method 414 165 (.pointer (some ⟨p,0, none⟩)) "almanac/slots.drop").run Tryz.prog w = .ok (220, .pointer (some ⟨p,0,none⟩)) w:=by kernel_rfl
theorem drS_n (p:Nat) (w:World):(nilAhead 414 165 (.pointer (some ⟨p,0, none⟩)) "almanac/slots.drop").run Tryz.prog w = .ok (some false) w:=by kernel_rfl
theorem drS_e (args:Array Value) (w:World):(callFunc 220 args).run Tryz.prog w = .ok (.enter 220 args) w:=by kernel_rfl
theorem drT_m (p:Nat) (w:World):(method 414 178 (.pointer (some ⟨p,0, none⟩)) "almanac/slots.drop").run Tryz.prog w = .ok (231, .pointer (some ⟨p,0,none⟩)) w:=by kernel_rfl
theorem drT_n (p:Nat) (w:World):(nilAhead 414 178 (.pointer (some ⟨p,0, none⟩)) "almanac/slots.drop").run Tryz.prog w = .ok (some false) w:=by kernel_rfl
theorem drT_e (args:Array Value) (w:World):(callFunc 231 args).run Tryz.prog w = .ok (.enter 231 args) w:=by kernel_rfl
theorem drR_m (p:Nat) (w:World):(method 414 184 (.pointer (some ⟨p,0, none⟩)) "almanac/slots.drop").run Tryz.prog w = .ok (236, .pointer (some ⟨p,0,none⟩)) w:=by kernel_rfl
theorem drR_n (p:Nat) (w:World):(nilAhead 414 184 (.pointer (some ⟨p,0, none⟩)) "almanac/slots.drop").run Tryz.prog w = .ok (some false) w:=by kernel_rfl
theorem drR_e (args:Array Value) (w:World):(callFunc 236 args).run Tryz.prog w = .ok (.enter 236 args) w:=by kernel_rfl
theorem drX_m (p:Nat) (w:World):(method 414 189 (.pointer (some ⟨p,0, none⟩)) "almanac/slots.drop").run Tryz.prog w = .ok (241, .pointer (some ⟨p,0,none⟩)) w:=by kernel_rfl
theorem drX_n (p:Nat) (w:World):(nilAhead 414 189 (.pointer (some ⟨p,0, none⟩)) "almanac/slots.drop").run Tryz.prog w = .ok (some false) w:=by kernel_rfl
theorem drX_e (args:Array Value) (w:World):(callFunc 241 args).run Tryz.prog w = .ok (.enter 241 args) w:=by kernel_rfl
structure DR (T:TypeId) (F:FuncId):Prop where
 m:∀ (p:Nat) (w:World),(method 414 T (.pointer (some ⟨p,0, none⟩)) "almanac/slots.drop").run Tryz.prog w = .ok (F, .pointer (some ⟨p,0,none⟩)) w
 n:∀ (p:Nat) (w:World),(nilAhead 414 T (.pointer (some ⟨p,0, none⟩)) "almanac/slots.drop").run Tryz.prog w = .ok (some false) w
 e:∀ (args:Array Value) (w:World),(callFunc F args).run Tryz.prog w = .ok (.enter F args) w
theorem dr_TI (k:K):DR (TI k) (drF k.kind):=by
 unfold TI drF
 repeat' split
 · exact ⟨drT_m,drT_n,drT_e⟩
 · exact ⟨drR_m,drR_n,drR_e⟩
 · exact ⟨drX_m,drX_n,drX_e⟩
 · exact ⟨drS_m,drS_n,drS_e⟩
theorem dropS_any (p:Nat) (v:Value) (w:World) (h:w.cell? ⟨p,15,none⟩=some v) (hf:w.frozen? ⟨p,15,none⟩=false) :
 Calls Tryz.prog 220 #[.pointer (some ⟨p,0,none⟩)] w fun e w'=>e = .returned (.tuple #[])∧w'=w.setCell ⟨p,15,none⟩ (.string nob):=by
 go_enter Tryz.func220,Tryz.ntmps220
 go_wp2
 go_end0
 exact ⟨rfl,rfl⟩
theorem dropT_any (p:Nat) (v:Value) (w:World) (h:w.cell? ⟨p,15,none⟩=some v) (hf:w.frozen? ⟨p,15,none⟩=false) :
 Calls Tryz.prog 231 #[.pointer (some ⟨p,0,none⟩)] w fun e w'=>e = .returned (.tuple #[])∧w'=w.setCell ⟨p,15,none⟩ (.slice none 0 0):=by
 go_enter Tryz.func231,Tryz.ntmps231
 go_wp2
 go_end0
 exact ⟨rfl,rfl⟩
theorem dropX_any (p:Nat) (v:Value) (w:World) (h:w.cell? ⟨p,15,none⟩=some v) (hf:w.frozen? ⟨p,15,none⟩=false) :
 Calls Tryz.prog 241 #[.pointer (some ⟨p,0,none⟩)] w fun e w'=>e = .returned (.tuple #[])∧w'=w.setCell ⟨p,15,none⟩ (.slice none 0 0):=by
 go_enter Tryz.func241,Tryz.ntmps241
 go_wp2
 go_end0
 exact ⟨rfl,rfl⟩
theorem dropR_any (p:Nat) (a b:Value) (w:World) (h:w.cell? ⟨p,16,none⟩=some a) (h':w.cell? ⟨p,17,none⟩=some b) (hf:w.frozen? ⟨p,16,none⟩=false) (hf':w.frozen? ⟨p,17,none⟩=false) (hp:p < w.heap.size) :
 Calls Tryz.prog 236 #[.pointer (some ⟨p,0,none⟩)] w fun e w'=>e = .returned (.tuple #[])∧∃ o,w'=((w.setCell ⟨p,16,none⟩ (.slice none 0 0)).setCell ⟨p,17,none⟩ (.int .i64 0)).alloc o:=by
 have HB:=hid (below_newK w (.cells #[.slice none 0 0, .int .i64 0] 87))
 have c16:=cell_kept HB.out h
 go_enter Tryz.func236,Tryz.ntmps236
 go_wp2
 go_end0
 exact ⟨rfl,_,rfl⟩
theorem SameH.at {w w':World} (h:SameH w w') (b:Nat):w'.heap[b]? = w.heap[b]?:=by rw [h.heap]
def DropPost (st:St V) (L:Lay) (bs:Nat) (fm:Value) (k:K) (m:Memo V) (q sm bg kv:Value) (arr:List K) (w:World):Ending→World→Prop:=fun e w' =>
 e = .returned (.tuple #[])∧ENGp (st.put k { m with val:=none }) L none bs fm q sm bg kv arr w'∧FR L.own w w'
theorem slotC_15 {bs:Nat} {k:K} {m:Memo V} {lp:Bool} {x:Aux} {pl:Int} {v v':Value} (h3:k.kind≠3):(slotC bs k m lp x pl [v]).set 15 v'=slotC bs k m lp x pl [v']∧(slotC bs k m lp x pl [v])[15]? = some v:=by
 unfold slotC ruleC
 by_cases h2:k.kind=2
 · simp [h2]
 by_cases h4:k.kind=4
 · simp [h4]
 · simp [h2,h3,h4]
theorem slotC_16 {bs:Nat} {k:K} {m:Memo V} {lp:Bool} {x:Aux} {pl:Int} {a b a' b':Value} (h3:k.kind=3):((slotC bs k m lp x pl [a,b]).set 16 a').set 17 b'=slotC bs k m lp x pl [a',b']∧(slotC bs k m lp x pl [a,b])[16]? = some a∧(slotC bs k m lp x pl [a,b])[17]? = some b:=by
 unfold slotC ruleC
 simp [h3]
theorem dropC {st:St V} {L:Lay} {bs:Nat} {fm q sm bg kv:Value} {arr:List K} {w:World} (h:ENGp st L none bs fm q sm bg kv arr w) {k:K} {m:Memo V} (hk:st.sl k=some m) :
 Calls Tryz.prog (drF k.kind) #[ptr (L.bk k)] w (DropPost st L bs fm k m q sm bg kv arr w):=by
 obtain ⟨x,vs,a,c⟩:=(h.cell k m hk).ex
 have hs:(if k.kind=2 then ∃ a m c,vs = [.slice a m c] else if k.kind=3 then ∃ a m c f,vs = [.slice a m c, .int .i64 f] else if k.kind=4 then ∃ a m c,vs = [.slice a m c] else ∃ b,vs = [.string b]):=valC_shape c
 have hown:=(h.cell k m hk).own
 have one:∀ (v:Value) (w':World),w'=w.setCell ⟨L.bk k,15,none⟩ v→k.kind≠3→(∃ u,vs = [u])→ValC L.own w k.kind none [v]→ENGp (st.put k { m with val:=none }) L none bs fm q sm bg kv arr w'∧FR L.own w w':=by
  rintro v w' rfl h3 ⟨u,rfl⟩ hv
  refine ⟨h.slot hk (fun b hb=>heap_setCell_ne hb v) (by simp) ⟨x,[v],?_,hv⟩ fun _ _=>rfl,(FR.refl _ _).setCell _ (.inl hown) v⟩
  have:=a.set 15 v
  rw [(slotC_15 h3).1] at this
  exact this
 unfold drF
 split
 · rename_i h2
   rw [if_pos h2] at hs
   obtain ⟨a1,m1,c1,rfl⟩:=hs
   refine (dropT_any (L.bk k) _ w (a.cell (slotC_15 (v' := .nilIface) (by omega)).2) (a.fr 15)).mono ?_
   rintro e w' ⟨he,hw⟩
   exact ⟨he,one _ w' hw (by omega) ⟨_,rfl⟩ (by show if k.kind=2 then _ else _;rw [if_pos h2];exact ⟨_,_,_,rfl⟩)⟩
 rename_i h2
 rw [if_neg h2] at hs
 split
 · rename_i h3
   rw [if_pos h3] at hs
   obtain ⟨a1,m1,c1,f1,rfl⟩:=hs
   have h16:=slotC_16 (bs:=bs) (m:=m) (lp:=decide ((none:Option K)=some k)) (x:=x) (pl:=plc arr k) (a := .slice a1 m1 c1) (b := .int .i64 f1) (a' := .slice none 0 0) (b' := .int .i64 0) h3
   refine (dropR_any (L.bk k) _ _ w (a.cell h16.2.1) (a.cell h16.2.2) (a.fr 16) (a.fr 17) (heap_lt a)).mono ?_
   rintro e w' ⟨he,o,rfl⟩
   have hval:ValC L.own w k.kind none [.slice none 0 0, .int .i64 0]:=by
    show if k.kind=2 then _ else _
    rw [if_neg h2,if_pos h3]
    exact ⟨_,_,_,_,rfl⟩
   have hsb:=(a.set 16 (.slice none 0 0)).set 17 (.int .i64 0)
   rw [h16.1] at hsb
   have hE:=h.slot (m':={ m with val:=none }) (w':=(w.setCell ⟨L.bk k,16,none⟩ (.slice none 0 0)).setCell ⟨L.bk k,17,none⟩ (.int .i64 0)) hk (fun b hbb=>(heap_setCell_ne hbb _).trans (heap_setCell_ne hbb _)) (by simp) ⟨x,_,hsb,hval⟩ fun _ _=>rfl
   exact ⟨he,hE.below (below_newK _ o),(((FR.refl L.own w).setCell ⟨L.bk k,16,none⟩ (.inl hown) (.slice none 0 0)).setCell ⟨L.bk k,17,none⟩ (.inl hown) (.int .i64 0)).alloc o⟩
 rename_i h3
 rw [if_neg h3] at hs
 split
 · rename_i h4
   rw [if_pos h4] at hs
   obtain ⟨a1,m1,c1,rfl⟩:=hs
   refine (dropX_any (L.bk k) _ w (a.cell (slotC_15 (v' := .nilIface) h3).2) (a.fr 15)).mono ?_
   rintro e w' ⟨he,hw⟩
   exact ⟨he,one _ w' hw h3 ⟨_,rfl⟩ (by show if k.kind=2 then _ else _;rw [if_neg h2,if_neg h3,if_pos h4];exact ⟨_,_,_,rfl⟩)⟩
 · rename_i h4
   rw [if_neg h4] at hs
   obtain ⟨b1,rfl⟩:=hs
   refine (dropS_any (L.bk k) _ w (a.cell (slotC_15 (v' := .nilIface) h3).2) (a.fr 15)).mono ?_
   rintro e w' ⟨he,hw⟩
   exact ⟨he,one _ w' hw h3 ⟨_,rfl⟩ (by show if k.kind=2 then _ else _;rw [if_neg h2,if_neg h3,if_neg h4];exact ⟨_,rfl⟩)⟩
theorem pop_state {st:St V} {L:Lay} {bs kb n c:Nat} {fm q sm bg:Value} {arr:List K} {k:K} {m:Memo V} {w w1 w':World} (h:ENGx st L none bs fm q sm bg (.slice (some ⟨kb,0,none⟩) arr.length c) arr w) (hn:arr.length=n+1) (hk0:arr[0]? = some k) (hm:st.sl k=some m)
 (hT:HT bs kb c L (usedOf st) arr w (popL (usedOf st) arr) w1) (hS:SameH (popW w1 bs kb n c (L.bk k)) w') :
 ENGp { st with kept:=st.kept.erase k } L none bs fm q sm bg (.slice (some ⟨kb,0,none⟩) n c) ((popL (usedOf st) arr).take n) w'∧FR L.own w w'∧HN (usedOf st) ((popL (usedOf st) arr).take n) n∧(∀ j∈st.kept,usedOf st k≤usedOf st j):=by
 obtain ⟨hsp,hln⟩:=popL_split (u:=usedOf st) hn hk0
 have hp:=h.toENGp.heaped hT
 have hlen:(popL (usedOf st) arr).length=n+1:=by rw [popL_len,hn]
 rw [hlen,hsp] at hp
 have hkb:L.own kb:=h.kv.2 kb rfl
 have hne:=hT.hp.ne k (by rw [hsp];simp)
 have hkbs:=hT.hp.kbs
 have hfar:∀ b,b≠bs→b≠kb→b≠L.bk k→w'.heap[b]? = w1.heap[b]?:=fun b h1 h2 h3=>by
  rw [hS.at]
  exact (heap_setCell_ne h3 _).trans ((heap_setCell_ne h1 _).trans (heap_setCell_ne h2 _))
 have hsz:w'.heap.size=w1.heap.size:=by rw [hS.heap];simp [popW]
 refine ⟨hp.popped hln hm hfar hsz ?_ ⟨.nilIface,?_⟩ fun T xs hx => ?_,?_,?_,?_⟩
 · rw [hS.at]
   refine (heap_setCell_ne (Ne.symm hne.2) _).trans ?_
   exact heap_setCell_lit (i:=5) ((heap_setCell_ne (Ne.symm hkbs) _).trans hp.s) _
 · rw [hS.at]
   exact (heap_setCell_ne (Ne.symm hne.1) _).trans (heap_setCell_ne hkbs _)
 · have h1:SB ((w1.setCell ⟨kb,n,none⟩ .nilIface).setCell ⟨bs,5,none⟩ (.slice (some ⟨kb,0,none⟩) n c)) (L.bk k) T xs:=(heap_setCell_ne hne.2 _).trans ((heap_setCell_ne hne.1 _).trans hx)
   have h2:=h1.set 10 (.int .i64 (-1))
   exact (hS.at _).trans h2
 · have f1:=fr_pf h.toENGp hkb hT.pf fun j hj=>hj
   refine ⟨hS.os.trans f1.os,hS.tape.trans f1.tape,hS.output.trans f1.output,by rw [hsz];exact f1.size,fun b hb hnb => ?_⟩
   rw [hfar b (fun e=>hnb (e ▸ h.bo)) (fun e=>hnb (e ▸ hkb)) (fun e=>hnb (e ▸ (h.cell k m hm).own))]
   exact f1.block b hb hnb
 · exact popL_heap hn h.heap
 · intro j hj
   have hja:=h.perm.mem_iff.2 hj
   obtain ⟨i,hi⟩:=List.getElem?_of_mem hja
   have hil:=(List.getElem?_eq_some_iff.1 hi).1
   have:=heap_top h.heap i hil
   unfold uat at this
   rw [hk0,hi] at this
   exact this
def KeepPost (n:Nat) (st:St V) (L:Lay) (bs:Nat) (fm:Value) (w:World):Ending→World→Prop:=fun e w' =>
 e = .returned (.tuple #[])∧∃ st',Drops n st st'∧ENG st' L none bs fm w'∧FR L.own w w'
theorem drop_eq {st:St V} {k:K} {m:Memo V} (hm:st.sl k=some m):({ st with kept:=st.kept.erase k }:St V).put k { m with val:=none }=st.drop k:=by
 unfold St.drop
 rw [hm]
 rfl
theorem used_drop {st:St V} {k:K} {m:Memo V} (hm:st.sl k=some m):usedOf (st.drop k)=usedOf st:=by
 funext j
 unfold usedOf St.drop
 rw [hm]
 by_cases hj:j=k
 · subst hj;simp [St.put,hm]
 · simp [St.put,hj]
theorem keepC {st:St V} {L:Lay} {bs:Nat} {fm:Value} {w:World} (h:ENG st L none bs fm w) :
 Calls Tryz.prog 22 #[.pointer (some ⟨bs,1,none⟩), .int .i64 40] w (KeepPost 40 st L bs fm w):=by
 have HS:Hid (ENG st L none bs fm w∧FR L.own w w):=hid ⟨h,FR.refl _ _⟩
 clear h
 go_enter Tryz.func22,Tryz.ntmps22
 go_wp2
 go_loopg [] st.kept.length (fun g wr => ∃ st1:St V,g=st1.kept.length∧ENG st1 L none bs fm wr∧FR L.own w wr∧∀ st',Drops 40 st1 st'→Drops 40 st st')
 case atStart=>exact ⟨st,rfl,HS.out.1,HS.out.2,fun _ x=>x⟩
 case round =>
  obtain ⟨st1,hg,hE,hF,hD⟩:=hrel
  obtain ⟨q,sm,bg,kv,arr,hx⟩:=hE
  have hle:=hx.perm.length_eq
  have hkl:=hx.kl
  by_cases h40:arr.length≤40
  · obtain ⟨ao,c,hkv⟩:∃ ao c,kv = .slice ao arr.length c:=by
     obtain ⟨⟨_,⟨h1,h2⟩ | ⟨g,c,cur,h1,_⟩⟩,_⟩:=hx.kv
     · exact ⟨none,0,by rw [h1,h2]⟩
     · exact ⟨_,_,h1⟩
    subst hkv
    have c5:wr.cell? ⟨bs,5,none⟩=some (.slice ao arr.length c):=heap_cell (i:=5) hx.s
    have hlt:¬ ((40:Int) < (arr.length:Int)):=by omega
    have HE:=hid (And.intro (show ENG st1 L none bs fm wr from ⟨q,sm,bg,_,arr,hx⟩) (And.intro hF (hD st1 (.done (by omega)))))
    clear hx hF hD hg HS
    go_wp2
    go_end0
    exact ⟨rfl,st1,HE.out.2.2,HE.out.1,HE.out.2.1⟩
  · have hne:arr ≠ []:=fun e=>by rw [e] at h40;exact h40 (by simp)
    obtain ⟨kb,c,hkv,hhp,_⟩:=hx.toENGp.hpx hne
    subst hkv
    obtain ⟨n,hn⟩:∃ n,arr.length=n+1:=⟨arr.length - 1,by omega⟩
    obtain ⟨k,hk0⟩:∃ k,arr[0]? = some k:=⟨_,List.getElem?_eq_getElem (by omega)⟩
    have hka:=List.mem_of_getElem? hk0
    obtain ⟨m,hm⟩:=Option.ne_none_iff_exists'.1 (hx.ex k hka)
    have c5:wr.cell? ⟨bs,5,none⟩=some (.slice (some ⟨kb,0,none⟩) arr.length c):=heap_cell (i:=5) hx.s
    have hlt:(40:Int) < (arr.length:Int):=by omega
    have hcap:n+1≤c:=by
     obtain ⟨⟨_,⟨h1,h2⟩ | ⟨g,c',cur,h1,_,_,h4,_⟩⟩,_⟩:=hx.kv
     · omega
     · injection h1 with _ _ h1;omega
    have HP:=hid (hpop hhp hn hk0 (heap_frozen hx.s) hcap (heap_lt hx.s))
    have HX:=hid (And.intro hx (And.intro hF hD))
    have HK:=hid (And.intro hn (And.intro hk0 (And.intro hm hg)))
    have HM:=hid (And.intro h40 (And.intro hle (hx.perm.mem_iff.1 hka)))
    obtain ⟨F,hMT⟩:=isT_TI k
    have m1:=(dr_TI k).m
    have m2:=(dr_TI k).n
    have m3:=(dr_TI k).e
    have m4:=hMT.isSlot
    unfold heapV slotV at HP
    clear hx hF hD hg HS hhp hn hk0 hm hka hne hcap h40 hle hkl hMT
    go_wp2_with fail
    refine HP.out.mono ?_
    rintro e w1 ⟨rfl,w0,hT,hSM⟩
    have hps:=pop_state HX.out.1 HK.out.1 HK.out.2.1 HK.out.2.2.1 hT hSM
    have HPS:=hid hps
    have HDC:=hid (dropC hps.1 (k:=k) (m:=m) HK.out.2.2.1)
    clear hT hSM hps
    go_wp2_with fail
    refine HDC.out.mono ?_
    rintro e w2 ⟨rfl,hE2,hF2⟩
    have hst:({ st1 with kept:=st1.kept.erase k }:St V).put k { m with val:=none }=st1.drop k:=drop_eq HK.out.2.2.1
    rw [hst] at hE2
    have HR:Hid (ENG (st1.drop k) L none bs fm w2∧FR L.own w w2∧(∀ st',Drops 40 (st1.drop k) st'→Drops 40 st st')∧(st1.drop k).kept.length+1=st1.kept.length):=hid (by
     have hlen:=HM.out.2.1
     have h40:=HM.out.1
     have hmem:=HM.out.2.2
     refine ⟨⟨_,_,_,_,_,hE2,?_⟩,(HX.out.2.1.trans HPS.out.2.1 fun i hi => .inl hi).trans hF2 fun i hi => .inl hi,fun st' hd=>HX.out.2.2 st' (.more (by omega) hmem HPS.out.2.2.2 hd),?_⟩
     · rw [used_drop HK.out.2.2.1]
       have h5:(List.take n (popL (usedOf st1) arr)).length=n:=(popL_split (u:=usedOf st1) HK.out.1 HK.out.2.1).2
       rw [h5]
       exact HPS.out.2.2.1
     · have:(st1.drop k).kept=st1.kept.erase k:=by unfold St.drop;rw [HK.out.2.2.1]
       rw [this,List.length_erase_of_mem hmem]
       have:=HK.out.1
       omega)
    clear hE2 hF2 hst HPS HDC HX HP
    go_wp2
    go_roundg (st1.drop k).kept.length
    all_goals first
     | (have:=HK.out.2.2.2;have:=HR.out.2.2.2;omega)
     | exact ⟨st1.drop k,rfl,HR.out.1,HR.out.2.1,HR.out.2.2.1⟩
end Go.Proofs.YthibodlojlkppaaGreatDoor

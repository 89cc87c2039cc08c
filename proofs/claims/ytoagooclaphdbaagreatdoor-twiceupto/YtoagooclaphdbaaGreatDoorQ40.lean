/-
  Settle keeps to the model: whole. Ask: what is refused. Ask: it begins. The token that cannot stand is one of the text's. Every tree has its text. Ask: names joined. Ask: what is written. The engine's model: values that are dropped; a question asked, and asked again.
-/
import Derived.Test.YtoagooclaphdbaaGreatDoorQ17
import Derived.Test.YtoagooclaphdbaaGreatDoorQ19
import Derived.Test.YtoagooclaphdbaaGreatDoorQ20
import Derived.Test.YtoagooclaphdbaaGreatDoorQ21
import Derived.Test.YtoagooclaphdbaaGreatDoorQ23
import Derived.Test.YtoagooclaphdbaaGreatDoorQ25
import Derived.Test.YtoagooclaphdbaaGreatDoorQ26
import Derived.Test.YtoagooclaphdbaaGreatDoorQ27
import Derived.Test.YtoagooclaphdbaaGreatDoorQ29
import Derived.Test.YtoagooclaphdbaaGreatDoorQ31
import Derived.Test.YtoagooclaphdbaaGreatDoorQ32
import Derived.Test.YtoagooclaphdbaaGreatDoorQ33
import Derived.Test.YtoagooclaphdbaaGreatDoorQ39
set_option linter.unusedVariables false
set_option linter.unusedSimpArgs false
set_option maxRecDepth 100000
set_option maxHeartbeats 40000000

namespace Go.Proofs.YtoagooclaphdbaaGreatDoor
open Go.RowKit
theorem engAll {W0:World} {bs:Nat} {fm:Value} (hpt:PT W0.heap.size W0) (heo:EOk W0) (n:Nat):SetC W0 (engM wp (.s cyc_) n) bs fm :=
 engC hpt heo (fun _ hE _ _ _ _ _ _ k2 k3 k4 hW h00 _ _ _ _ hr=>workReportC hE hpt hW h00 k2 k3 k4 hr) n
def refX (kind:Int) (f nm:ByteArray):Int :=
 if kind < 1∨8 < kind then 6 else if fileB f=false then 1 else if (5≤kind∧kind≤7)∧nameB nm=false then 1 else 0
theorem needsName_any (kind:Int) (w:World) :
 Calls Tryz.prog 67 #[.int .i64 kind] w fun e w'=>e = .returned (.bool (decide (5≤kind∧kind≤7)))∧w'=w:=by
 by_cases h1:5≤kind
 · by_cases h2:kind≤7
   · have e:decide (5≤kind∧kind≤7)=true:=by simp [h1,h2]
     rw [e]
     go_enter Tryz.func67,Tryz.ntmps67
     go_wp2
     go_ret
     exact ⟨rfl,rfl⟩
   · have e:decide (5≤kind∧kind≤7)=false:=by simp [h2]
     rw [e]
     go_enter Tryz.func67,Tryz.ntmps67
     go_wp2
     go_ret
     exact ⟨rfl,rfl⟩
 · have e:decide (5≤kind∧kind≤7)=false:=by simp [h1]
   rw [e]
   go_enter Tryz.func67,Tryz.ntmps67
   go_wp2
   go_ret
   exact ⟨rfl,rfl⟩
theorem check_any (kind:Int) (f nm:ByteArray) (w:World) :
 Calls Tryz.prog 40 #[.int .i64 kind, .string f, .string nm] w fun e w'=>e = .returned (.int .i64 (refX kind f nm))∧w'=w:=by
 have HF:=hid (isFile_any f w)
 have HN:=hid (isName_all nm w)
 have HNN:=hid (needsName_any kind w)
 by_cases h1:kind < 1
 · have e:refX kind f nm=6:=by simp [refX,h1]
   rw [e]
   go_enter Tryz.func40,Tryz.ntmps40
   go_wp2
   go_ret
   exact ⟨rfl,rfl⟩
 by_cases h2:8 < kind
 · have e:refX kind f nm=6:=by simp [refX,h2]
   rw [e]
   go_enter Tryz.func40,Tryz.ntmps40
   go_wp2
   go_ret
   exact ⟨rfl,rfl⟩
 obtain ⟨a,ha⟩:∃ a,a=fileB f:=⟨_,rfl⟩
 obtain ⟨b,hb⟩:∃ b,b=nameB nm:=⟨_,rfl⟩
 obtain ⟨n,hn⟩:∃ n,n=decide (5≤kind∧kind≤7):=⟨_,rfl⟩
 have hr:refX kind f nm=if a=false then 1 else if n=true∧b=false then 1 else 0:=by
  rw [refX,if_neg (by omega),←ha,←hb,hn];simp
 rw [hr]
 rw [←ha] at HF
 rw [←hb] at HN
 rw [←hn] at HNN
 clear ha hb hn hr
 cases a with
 | false =>
  simp only [if_true]
  go_enter Tryz.func40,Tryz.ntmps40
  go_wp2_with fail
  refine HF.out.mono ?_
  rintro e w1 ⟨rfl,rfl⟩
  go_wp2
  go_ret
  exact ⟨rfl,rfl⟩
 | true =>
  cases n with
  | false =>
   simp only [Bool.false_eq_true,false_and,if_false]
   go_enter Tryz.func40,Tryz.ntmps40
   go_wp2_with fail
   refine HF.out.mono ?_
   rintro e w1 ⟨rfl,rfl⟩
   go_wp2_with fail
   refine HNN.out.mono ?_
   rintro e w1 ⟨rfl,rfl⟩
   go_wp2
   go_ret
   exact ⟨rfl,rfl⟩
  | true =>
   cases b with
   | false =>
    simp only [true_and,if_true]
    go_enter Tryz.func40,Tryz.ntmps40
    go_wp2_with fail
    refine HF.out.mono ?_
    rintro e w1 ⟨rfl,rfl⟩
    go_wp2_with fail
    refine HNN.out.mono ?_
    rintro e w1 ⟨rfl,rfl⟩
    go_wp2_with fail
    refine HN.out.mono ?_
    rintro e w1 ⟨rfl,rfl⟩
    go_wp2
    go_ret
    exact ⟨rfl,rfl⟩
   | true =>
    simp only [Bool.true_eq_false,and_false,if_false]
    go_enter Tryz.func40,Tryz.ntmps40
    go_wp2_with fail
    refine HF.out.mono ?_
    rintro e w1 ⟨rfl,rfl⟩
    go_wp2_with fail
    refine HNN.out.mono ?_
    rintro e w1 ⟨rfl,rfl⟩
    go_wp2_with fail
    refine HN.out.mono ?_
    rintro e w1 ⟨rfl,rfl⟩
    go_wp2
    go_ret
    exact ⟨rfl,rfl⟩
theorem TB_sess {k:K}:TB k≠97:=by
 unfold TB
 repeat' split
 all_goals decide
theorem ENG.beginS {st:St V} {L:Lay} {lp:Option K} {bs:Nat} {fm:Value} {w:World} (h:ENG st L lp bs fm w):ENG { st with began:=[] } L lp bs fm (w.setCell ⟨bs,4,none⟩ (.slice none 0 0))∧Next st { st with began:=[] } L L w (w.setCell ⟨bs,4,none⟩ (.slice none 0 0)):=by
 obtain ⟨q,sm,bg,kv,arr,h⟩:=h
 have hfr:FR L.own w (w.setCell ⟨bs,4,none⟩ (.slice none 0 0)):=⟨rfl,rfl,rfl,by simp,fun b hb hn=>heap_setCell_ne (fun e=>hn (by rw [e];exact h.bo)) _⟩
 have hcs:∀ (b:Nat) (cs:Array Value) (T:TypeId),T≠97→w.heap[b]? = some (.cells cs T)→(w.setCell ⟨bs,4,none⟩ (.slice none 0 0)).heap[b]? = some (.cells cs T):=fun b cs T h1 hb=>by
  refine (heap_setCell_ne (fun e => ?_) _).trans hb
  rw [e,h.s] at hb;injection hb with hb;injection hb with _ hb;exact h1 hb.symm
 have hmp:∀ (b:Nat) (es:Array MapEntry) (n:Nat),w.heap[b]? = some (.map es n)→(w.setCell ⟨bs,4,none⟩ (.slice none 0 0)).heap[b]? = some (.map es n):=fun b es n hb=>by
  refine (heap_setCell_ne (fun e => ?_) _).trans hb
  rw [e,h.s] at hb;injection hb with hb;cases hb
 refine ⟨⟨q,sm, .slice none 0 0,kv,arr,⟨⟨heap_setCell_lit (i:=4) h.s _,h.bo,fun b hb=>by simpa using h.olt b hb,h.sr.keep hmp,fun f c hf=>⟨(h.srb f c hf).1,hcs _ _ _ (by decide) (h.srb f c hf).2⟩,h.sri,h.qm,h.sm.keep hmp,⟨World.ownsRow_nil _ _ _ _,fun g hg=>by simp [Value.ownBlock] at hg⟩,h.kv.keep fun b cs=>hcs b cs _ (by decide),h.perm,h.nd,h.kl,h.ex,fun j n hj => ?_⟩,h.heap⟩⟩,⟨fun _ h=>⟨h,rfl⟩,fun _ h=>⟨h,rfl⟩,fun b hb => .inl hb,hfr⟩⟩
 have hc:=h.cell j n hj
 obtain ⟨x,vs,a,b⟩:=hc.ex
 exact ⟨⟨x,vs,hcs _ _ _ TB_sess a,b.next hfr fun i h => .inl h⟩,hc.own⟩
theorem beginC {st:St V} {L:Lay} {lp:Option K} {bs:Nat} {fm:Value} {w:World} (h:ENG st L lp bs fm w) :
 Calls Tryz.prog 39 #[ptr bs] w fun e w'=>e = .returned (.tuple #[])∧Hid (ENG { st with began:=[] } L lp bs fm w'∧Next st { st with began:=[] } L L w w'):=by
 obtain ⟨q,sm,bg,kv,arr,hx⟩:=id h
 have c4:w.cell? ⟨bs,4,none⟩=some bg:=heap_cell (i:=4) hx.s
 have f4:w.frozen? ⟨bs,4,none⟩=false:=heap_frozen hx.s
 have H:=hid h.beginS
 clear h hx
 go_enter Tryz.func39,Tryz.ntmps39
 go_wp2
 go_end0
 exact ⟨rfl,H⟩
theorem callsEx {P:Program} {f:FuncId} {args:Array Value} {w:World} {R:Ending→World→Prop} (h:Calls P f args w R):∃ e w',R e w':=by
 obtain ⟨e,w',_,hr,_⟩:=h []
 exact ⟨e,w',hr⟩
theorem itemP_lt {toks:List Tok} (hw:Wf toks) (w:World) {a:Nat} (ha:a < toks.length):(itemP toks a).1 < toks.length:=by
 have h1:=new_heap w (.cells (tokCells toks).toArray 170)
 have h2:=new_heap (w.alloc (.cells (tokCells toks).toArray 170)) (.cells #[.slice (some ⟨w.heap.size,0,none⟩) toks.length toks.length, .int .i64 a, .int .i64 0] 270)
 have h3:=old_heap (.cells #[.slice (some ⟨w.heap.size,0,none⟩) toks.length toks.length, .int .i64 a, .int .i64 0] 270) h1
 have hP:PS toks (w.alloc (.cells (tokCells toks).toArray 170)).heap.size w.heap.size toks.length a 0 ((w.alloc (.cells (tokCells toks).toArray 170)).alloc (.cells #[.slice (some ⟨w.heap.size,0,none⟩) toks.length toks.length, .int .i64 a, .int .i64 0] 270)).heap :=
  ⟨by simp,by rw [h2];rfl,_,h3,by
   have:(tokCells toks).length=3 * toks.length:=tokCells_length toks
   simp [←this]⟩
 obtain ⟨_,_,hx⟩:=callsEx (item_any hw _ _ _ a _ ha hP)
 exact hx.2.2.1
theorem treeP_fault {toks:List Tok} (hw:Wf toks) (w:World):∀ (f a b:Nat),a < toks.length→(treeP toks f a).2=some b→b < toks.length
 | 0,_,_,_,h=>by simp [treeP] at h
 | f+1,a,b,ha,h=>by
  have hlt:=itemP_lt hw w ha
  unfold treeP at h
  split at h
  · simp at h
  · split at h
    · rename_i c hip
      rw [hip] at hlt
      simp at h
      subst h
      exact hlt
    · rename_i c i hip
      rw [hip] at hlt
      exact treeP_fault hw w f c b hlt h
theorem treeX_fault {toks:List Tok} (hw:Wf toks) (w:World) (b:Nat) (h:(treeX toks).2=some b):b < toks.length:=by
 have e:=tree_enc toks
 have:(treeAll toks).2=some b:=by rw [e];exact h
 exact treeP_fault hw w _ _ b hw.pos this
section
variable {P:Ex→Prop} {toks:List Tok}
theorem PX_all (hleaf:∀ a x,leafX (tx toks a)=some x→P x) (hpair:∀ op l r,(op = [43]∨op = [42]∨op = [61,61])→P l→P r→P (.pair op l r)) (hch:∀ c y n,P c→P y→P n→P (.choice c y n)) :
 ∀ (f tag nest a:Nat) (acc:Ex) (b:Nat) (x:Ex),PX toks f tag nest a acc=some (b,some x)→(4≤tag→P acc)→P x
 | 0,_,_,_,_,_,_,h,_=>by simp [PX] at h
 | f+1,0,nest,a,acc,b,x,h,_=>by
  simp only [PX] at h
  obtain ⟨c,y,h1,h2⟩:=andX_some h
  have q1:=PX_all hleaf hpair hch f 1 nest a _ c y h1 (by omega)
  split at h2
  · obtain ⟨d,z,h3,h4⟩:=andX_some h2
    have q2:=PX_all hleaf hpair hch f 1 nest (c+1) _ d z h3 (by omega)
    cases h4
    exact hpair _ _ _ (.inr (.inr rfl)) q1 q2
  · cases h2;exact q1
 | f+1,1,nest,a,acc,b,x,h,_=>by
  simp only [PX] at h
  obtain ⟨c,y,h1,h2⟩:=andX_some h
  exact PX_all hleaf hpair hch f 4 nest c _ b x h2 fun _=>PX_all hleaf hpair hch f 2 nest a _ c y h1 (by omega)
 | f+1,2,nest,a,acc,b,x,h,_=>by
  simp only [PX] at h
  obtain ⟨c,y,h1,h2⟩:=andX_some h
  exact PX_all hleaf hpair hch f 5 nest c _ b x h2 fun _=>PX_all hleaf hpair hch f 3 nest a _ c y h1 (by omega)
 | f+1,3,nest,a,acc,b,x,h,_=>by
  simp only [PX] at h
  split at h
  · split at h
    · cases h
    · obtain ⟨c,y,h1,h2⟩:=andX_some h
      have q1:=PX_all hleaf hpair hch f 0 (nest+1) (a+1) _ c y h1 (by omega)
      split at h2
      · cases h2;exact q1
      · cases h2
  · split at h
    · split at h
      · cases h
      · obtain ⟨c,y,h1,h2⟩:=andX_some h
        have q1:=PX_all hleaf hpair hch f 0 (nest+1) (a+1) _ c y h1 (by omega)
        split at h2
        · obtain ⟨d,z,h3,h4⟩:=andX_some h2
          have q2:=PX_all hleaf hpair hch f 0 (nest+1) (c+1) _ d z h3 (by omega)
          split at h4
          · obtain ⟨e,u,h5,h6⟩:=andX_some h4
            have q3:=PX_all hleaf hpair hch f 0 (nest+1) (d+1) _ e u h5 (by omega)
            split at h6
            · cases h6;exact hch _ _ _ q1 q2 q3
            · cases h6
          · cases h4
        · cases h2
    · cases hlf:leafX (tx toks a) with
      | none=>rw [hlf] at h;cases h
      | some v=>rw [hlf] at h;cases h;exact hleaf a _ hlf
 | f+1,4,nest,a,acc,b,x,h,hacc=>by
  simp only [PX] at h
  split at h
  · obtain ⟨c,y,h1,h2⟩:=andX_some h
    exact PX_all hleaf hpair hch f 4 nest c _ b x h2 fun _=>hpair _ _ _ (.inl rfl) (hacc (by omega)) (PX_all hleaf hpair hch f 2 nest (a+1) _ c y h1 (by omega))
  · cases h;exact hacc (by omega)
 | f+1,tag+5,nest,a,acc,b,x,h,hacc=>by
  simp only [PX] at h
  split at h
  · obtain ⟨c,y,h1,h2⟩:=andX_some h
    exact PX_all hleaf hpair hch f 5 nest c _ b x h2 fun _=>hpair _ _ _ (.inr (.inl rfl)) (hacc (by omega)) (PX_all hleaf hpair hch f 3 nest (a+1) _ c y h1 (by omega))
  · cases h;exact hacc (by omega)
theorem itemX_all (hx:∀ a b x,exprX toks a=(b,some x)→P x) {a b:Nat} {i:Itx} (h:itemX toks a=(b,some i)):∀ e,i.ex=some e→P e:=by
 have key:∀ k a,letX toks k a=(b,some i)→∀ e,i.ex=some e→P e:=by
  intro k a h e hi
  unfold letX at h
  split at h
  · split at h
    · split at h
      · split at h
        · split at h
          · rcases he:exprX toks (a+5) with ⟨c,r⟩
            rw [he] at h
            cases r with
            | none=>cases h
            | some x =>
             simp only at h
             split at h
             · cases h
               cases hi
               exact hx _ _ _ he
             · cases h
          · cases h
        · cases h
      · cases h
    · cases h
  · cases h
 unfold itemX at h
 split at h
 · unfold useX at h
   split at h
   · split at h
     · cases h;intro e he;cases he
     · cases h
   · cases h
 · split at h
   · exact key _ _ h
   · exact key _ _ h
theorem treeX_all (hleaf:∀ a x,leafX (tx toks a)=some x→P x) (hpair:∀ op l r,(op = [43]∨op = [42]∨op = [61,61])→P l→P r→P (.pair op l r)) (hch:∀ c y n,P c→P y→P n→P (.choice c y n)):∀ i∈(treeX toks).1,∀ e,i.ex=some e→P e:=by
 have hx:∀ a b x,exprX toks a=(b,some x)→P x:=fun a b x he=>by
  refine PX_all hleaf hpair hch 1700 0 0 a (.tru true) b _ ?_ (by omega)
  unfold exprX at he
  cases hp:PX toks 1700 0 0 a (.tru true) with
  | none=>rw [hp] at he;cases he
  | some q=>rw [hp] at he;exact congrArg some he
 have key:∀ (f a:Nat),∀ i∈(treeXP toks f a).1,∀ e,i.ex=some e→P e:=by
  intro f
  induction f with
  | zero=>intro a i hi;simp [treeXP] at hi
  | succ f ih =>
   intro a i hi
   unfold treeXP at hi
   split at hi
   · simp at hi
   · rcases h:itemX toks a with ⟨b,r⟩
     rw [h] at hi
     cases r with
     | none=>simp at hi
     | some j =>
      rcases List.mem_cons.1 hi with rfl | hi
      · exact itemX_all hx h
      · exact ih b i hi
 exact key _ _
end
def HasT (e:Ex):Prop:=∃ s,Writes (encX e) s∧s.size≤410 * sizeX e
theorem tx_sz {s:ByteArray} (hs:s.size≤400) (a:Nat):(tx (lexAll s) a).size≤400:=by
 unfold tx
 cases h:(lexAll s)[a]? with
 | none=>exact Nat.zero_le _
 | some t=>exact (tok_szs hs h).1
theorem hasT_all {s:ByteArray} (hs:s.size≤400):∀ i∈(treeX (lexAll s)).1,∀ e,i.ex=some e→HasT e:=by
 refine treeX_all (P:=HasT) (fun a x h => ?_) (fun op l r hop hl hr => ?_) fun c y n hc hy hn => ?_
 · have h1:=leaf_enc (tx (lexAll s) a)
   rw [h] at h1
   have h2:=shownT_size _ (tx_sz hs a)
   have h3:sizeX x=1:=by
    unfold leafX at h
    split at h
    · cases h;rfl
    · split at h
      · cases h;rfl
      · split at h
        · cases h;rfl
        · cases h
   exact ⟨_,leaf_writes h1,by omega⟩
 · obtain ⟨s1,w1,z1⟩:=hl
   obtain ⟨s2,w2,z2⟩:=hr
   refine ⟨_,writes_pair (op:=op) w1 w2,?_⟩
   have:op.length≤2:=by rcases hop with rfl | rfl | rfl <;> decide
   rw [pairT_size]
   show _≤410 * (sizeX l+sizeX r+1)
   omega
 · obtain ⟨s1,w1,z1⟩:=hc
   obtain ⟨s2,w2,z2⟩:=hy
   obtain ⟨s3,w3,z3⟩:=hn
   refine ⟨_,writes_choice w1 w2 w3,?_⟩
   rw [choiceT_size]
   show _≤410 * (sizeX c+sizeX y+sizeX n+1)
   omega
theorem nameB_le8 {t:ByteArray} (h:nameB t=true):t.size≤8:=by
 unfold nameB at h
 simp only [Bool.and_eq_true,decide_eq_true_eq] at h
 exact h.1.1.2
theorem itx_all {s:ByteArray} (hs:s.size≤400):∀ i∈(treeX (lexAll s)).1,∃ x,ITx (itOf i) x:=by
 intro i hi
 have hk:=(treeX_ok (lexAll s)).1 i hi
 have hlen:=(lexWf s hs).1.le
 have hnum:i.num≤1000:=by have:=hk.num;omega
 have hn8:=nameB_le8 hk.name.1
 have hd:(decT i.num).size≤1001:=by have:=decT_size i.num;omega
 by_cases h0:i.kind=0
 · refine ⟨itemU (decT i.num) ⟨#[58,117,115,101,32]⟩ i.name,hnum,?_, .inl ⟨h0,?_,rfl⟩⟩
   · simp only [itemU,ByteArray.size_append,bsz1]
     have:(⟨#[58,117,115,101,32]⟩:ByteArray).size=5:=rfl
     simp only [List.length_cons,List.length_nil]
     omega
   · show exV i.ex=_
     rw [hk.use h0];rfl
 · obtain ⟨h12,hty,e,he,hsz,_⟩:=hk.let' h0
   obtain ⟨x,hw,hx⟩:=hasT_all hs i hi e he
   have hty4:i.typ.size≤4:=by rcases hty with h | h <;> rw [h] <;> decide
   have hb:(410 * sizeX e)≤164410:=by omega
   have hex:(itOf i).ex=encX e:=by
    show exV i.ex=_
    rw [he];rfl
   have hz:∀ q:ByteArray,q.size=5→(itemL (decT i.num) q i.name i.typ x).size≤200000:=fun q hq=>by
    simp only [itemL,ByteArray.size_append,bsz1]
    simp only [List.length_cons,List.length_nil]
    omega
   rcases h12 with h1 | h2
   · exact ⟨itemL (decT i.num) ⟨#[58,108,101,116,32]⟩ i.name i.typ x,hnum,hz _ rfl, .inr ⟨x,by rw [hex];exact hw, .inl ⟨h1,rfl⟩⟩⟩
   · exact ⟨itemL (decT i.num) ⟨#[58,112,117,98,32]⟩ i.name i.typ x,hnum,hz _ rfl, .inr ⟨x,by rw [hex];exact hw, .inr ⟨h2,rfl⟩⟩⟩
noncomputable def lineX (i:Itx):ByteArray:=by
 classical exact if h:∃ x,ITx (itOf i) x then Classical.choose h else nob
theorem lineX_ok {s:ByteArray} (hs:s.size≤400) {i:Itx} (hi:i∈(treeX (lexAll s)).1):ITx (itOf i) (lineX i):=by
 unfold lineX
 rw [dif_pos (itx_all hs i hi)]
 exact Classical.choose_spec (itx_all hs i hi)
theorem lines_all {s:ByteArray} (hs:s.size≤400) {its:List Itx} (h:its=(treeX (lexAll s)).1):∀ (k:Nat) (i:It) (x:ByteArray),(its.map itOf)[k]? = some i→(its.map lineX)[k]? = some x→ITx i x:=by
 intro k i x h1 h2
 rw [List.getElem?_map] at h1 h2
 cases hk:its[k]? with
 | none=>rw [hk] at h1;cases h1
 | some j =>
  rw [hk] at h1 h2
  cases h1;cases h2
  exact lineX_ok hs (by rw [←h];exact List.mem_of_getElem? hk)
noncomputable def txtV:V→ByteArray
 | .s b=>b
 | .t l=>joinT (l.map tokT)
 | .r its fl=>treeT (its.map lineX) fl
 | .x l=>⟨(Lib.join (l.map fun b=>b.data.toList) [32]).toArray⟩
theorem bsz1' (l:List UInt8):(⟨l.toArray⟩:ByteArray).size=l.length:=by simp [ByteArray.size]
theorem join_le {m:Nat}:∀ (l:List (List UInt8)),(∀ x∈l,x.length≤m)→(Lib.join l [32]).length≤l.length * (m+1)
 | [],_=>by simp [Lib.join,List.intercalate]
 | [x],h=>by
  have:=h x (by simp)
  simp [Lib.join,List.intercalate];omega
 | x :: y :: l,h=>by
  have h1:=h x (by simp)
  have h2:=join_le (y :: l) fun z hz=>h z (List.mem_cons_of_mem _ hz)
  have e:Lib.join (x :: y :: l) [32]=x ++ ([32] ++ Lib.join (y :: l) [32]):=by simp [Lib.join,List.intercalate]
  rw [e]
  simp only [List.length_append,List.length_cons,List.length_nil] at h2 ⊢
  rw [Nat.add_mul]
  omega
theorem compact_mem {x:List UInt8} (l:List (List UInt8)) (h:x∈Lib.compact l):x∈l:=by
 unfold Lib.compact Lib.compactUpTo at h
 obtain ⟨j,hj,rfl⟩:=List.mem_map.1 h
 have hl:j < l.length:=List.mem_range.1 (List.mem_filter.1 hj).1
 have hl':j < l.toArray.size:=by simpa using hl
 rw [getElem!_pos l.toArray j hl']
 simp
theorem exp_short {s:ByteArray} {x:ByteArray} (h:x∈expX (treeX (lexAll s)).1):x.data.toList.length≤8:=by
 unfold expX at h
 obtain ⟨y,hy,rfl⟩:=List.mem_map.1 h
 have h1:=compact_mem _ hy
 rw [List.mem_mergeSort] at h1
 unfold pubsX at h1
 obtain ⟨i,hi,rfl⟩:=List.mem_map.1 h1
 have h2:=nameB_le8 ((treeX_ok (lexAll s)).1 i (List.mem_filter.1 hi).1).name.1
 simpa using h2
theorem joinC {O:Nat→Prop} {l:List ByteArray} {ao:Option Addr} {c:Nat} {w:World} (hr:Row O w 9 (.slice ao l.length c) l.length (l.map .string)) (hl:l.length≤401) (h8:∀ x∈l,x.data.toList.length≤8) :
 Calls Tryz.prog 75 #[.slice ao l.length c, .string ⟨#[32]⟩] w fun e w'=>e = .returned (.string (txtV (.x l)))∧Below w.heap.size w w':=by
 unfold txtV
 by_cases h0:l = []
 · subst h0
   refine (Tryz.strings_Join_none ao c ⟨#[32]⟩ w).mono ?_
   rintro e w' ⟨rfl,rfl⟩
   exact ⟨rfl,Below.refl _ _⟩
 · have hpos:0 < l.length:=List.length_pos_iff.2 h0
   have hcell:=row_strs hr
   obtain ⟨a1,c1,e1,hc,h2⟩:=hr
   obtain ⟨g,cur,h3,h4,h5,h6⟩:=h2 hpos
   injection e1 with e1 e2 e3
   rw [h3] at e1
   subst e1 e3
   have hJ:=join_le (m:=8) (l.map fun b=>b.data.toList) (fun x hx=>by
    obtain ⟨y,hy,rfl⟩:=List.mem_map.1 hx
    exact h8 y hy)
   rw [List.length_map] at hJ
   refine (Tryz.strings_Join g 0 c l ⟨#[32]⟩ w (fun j x hj => ?_) (heap_lt h5) (by omega) hc ?_).mono ?_
   · obtain ⟨g',e',hh⟩:=hcell j x hj
     injection e' with e'
     injection e' with e'
     rw [e',Nat.zero_add]
     exact hh
   · have:(l.length * 9)≤401 * 9:=Nat.mul_le_mul_right _ hl
     exact Nat.le_trans hJ (by omega)
   · rintro e w' ⟨rfl,hb⟩
     exact ⟨rfl,hb⟩
theorem pt_up {W0 w:World} (h:PT W0.heap.size W0) (hb:Below W0.heap.size W0 w):PT w.heap.size w:=fun w' h'=>h w' (below_seq hb h')
abbrev LKo (bs:Nat):Obj := .cells #[.pointer (some ⟨bs,1,none⟩), .slice none 0 0] 158
theorem looksC (bs:Nat) (w:World):Calls Tryz.prog 69 #[.pointer (some ⟨bs,1,none⟩)] w fun e w'=>e = .returned (.pointer (some ⟨w.heap.size,0,none⟩))∧w'=w.alloc (LKo bs):=by
 go_enter Tryz.func69,Tryz.ntmps69
 go_wp2
 go_ret
 exact ⟨rfl,rfl⟩
section
variable {W0:World} {E:Eng V} {bs:Nat} {fm:Value} {st st':St V} {L:Lay} {w:World} {nc:Bool} {lk':List Lk}
theorem ask_start (hG:ENG st L none bs fm w) (hM:FM W0 st.files L fm w):WS W0 w.heap.size bs w.heap.size fm st L (w.alloc (LKo bs)) st L [] (w.alloc (LKo bs)):=by
 have hb:=below_newK w (LKo bs)
 have hn:¬ L.own w.heap.size:=fun e=>by
  obtain ⟨q,sm,bg,kv,arr,hx⟩:=hG
  have:=hx.olt _ e;omega
 exact WS.start (hG.below hb) (hM.below hb) ⟨⟨.slice none 0 0,new_heap w (LKo bs),World.ownsRow_nil _ _ _ _,fun g hg=>by simp [Value.ownBlock] at hg⟩,hn,by simp,fun l hl=>by simp at hl,Nat.zero_le _⟩ hM.low.size hM.low.size
structure Wrote (W0:World) (bs:Nat) (fm:Value) (st:St V) (L:Lay) (w:World) (st':St V) (w':World):Prop where
 ex:∃ L',ENG st' L' none bs fm w'∧FM W0 st'.files L' fm w'∧Next st st' L L' w w'
theorem got_wrote {L':Lay} {w':World} (h:Got W0 w.heap.size bs w.heap.size fm st L (w.alloc (LKo bs)) st L (w.alloc (LKo bs)) st' L' lk' w'):Wrote W0 bs fm st L w st' w' :=
 ⟨L',h.s.e,h.s.m,h.n.next ((Next.refl st L w).below (below_newK w (LKo bs))) (Nat.le_refl _) (Nat.le_refl _)⟩
theorem Wrote.below {w1 w':World} (h:Wrote W0 bs fm st L w st' w1) (hb:Below w1.heap.size w1 w'):Wrote W0 bs fm st L w st' w':=by
 obtain ⟨L',a,b,c⟩:=h.ex
 exact ⟨L',a.below hb,b.below hb,c.below hb⟩
theorem write1C (hE:Eng0 W0 E bs fm) (hG:ENG st L none bs fm w) (hM:FM W0 st.files L fm w) {f nm b:ByteArray} (hm:fetC E nc ⟨1,f,nob⟩ [] st=some (.ok (.s b,lk'),st')) :
 Calls Tryz.prog 41 #[ptr bs, .int .i64 1, .string f, .string nm] w fun e w'=>e = .returned (.string b)∧Wrote W0 bs fm st L w st' w':=by
 have HK:=hid (knownW hE (ask_start hG hM) hm)
 clear hE hG hM hm
 go_enter Tryz.func41,Tryz.ntmps41
 go_wp2_with fail
 refine (looksC bs w).mono ?_
 rintro e w1 ⟨rfl,rfl⟩
 go_wp2_with fail
 refine HK.out.mono ?_
 rintro e w2 ⟨rfl,hq⟩
 have HQ:=hid hq
 clear hq
 go_wp2
 go_ret
 obtain ⟨L',hg⟩:=HQ.out
 exact ⟨rfl,got_wrote hg⟩
theorem write5C (hE:Eng0 W0 E bs fm) (hG:ENG st L none bs fm w) (hM:FM W0 st.files L fm w) {f nm b:ByteArray} (hm:fetC E nc ⟨5,f,nm⟩ [] st=some (.ok (.s b,lk'),st')) :
 Calls Tryz.prog 41 #[ptr bs, .int .i64 5, .string f, .string nm] w fun e w'=>e = .returned (.string b)∧Wrote W0 bs fm st L w st' w':=by
 have HK:=hid (findW hE (ask_start hG hM) hm)
 clear hE hG hM hm
 go_enter Tryz.func41,Tryz.ntmps41
 go_wp2_with fail
 refine (looksC bs w).mono ?_
 rintro e w1 ⟨rfl,rfl⟩
 go_wp2_with fail
 refine HK.out.mono ?_
 rintro e w2 ⟨rfl,hq⟩
 have HQ:=hid hq
 clear hq
 go_wp2
 go_ret
 obtain ⟨L',hg⟩:=HQ.out
 exact ⟨rfl,got_wrote hg⟩
theorem write6C (hE:Eng0 W0 E bs fm) (hG:ENG st L none bs fm w) (hM:FM W0 st.files L fm w) {f nm b:ByteArray} (hm:fetC E nc ⟨6,f,nm⟩ [] st=some (.ok (.s b,lk'),st')) :
 Calls Tryz.prog 41 #[ptr bs, .int .i64 6, .string f, .string nm] w fun e w'=>e = .returned (.string b)∧Wrote W0 bs fm st L w st' w':=by
 have HK:=hid (typeW hE (ask_start hG hM) hm)
 clear hE hG hM hm
 go_enter Tryz.func41,Tryz.ntmps41
 go_wp2_with fail
 refine (looksC bs w).mono ?_
 rintro e w1 ⟨rfl,rfl⟩
 go_wp2_with fail
 refine HK.out.mono ?_
 rintro e w2 ⟨rfl,hq⟩
 have HQ:=hid hq
 clear hq
 go_wp2
 go_ret
 obtain ⟨L',hg⟩:=HQ.out
 exact ⟨rfl,got_wrote hg⟩
theorem write7C (hE:Eng0 W0 E bs fm) (hG:ENG st L none bs fm w) (hM:FM W0 st.files L fm w) {f nm b:ByteArray} (hm:fetC E nc ⟨7,f,nm⟩ [] st=some (.ok (.s b,lk'),st')) :
 Calls Tryz.prog 41 #[ptr bs, .int .i64 7, .string f, .string nm] w fun e w'=>e = .returned (.string b)∧Wrote W0 bs fm st L w st' w':=by
 have HK:=hid (valueW hE (ask_start hG hM) hm)
 clear hE hG hM hm
 go_enter Tryz.func41,Tryz.ntmps41
 go_wp2_with fail
 refine (looksC bs w).mono ?_
 rintro e w1 ⟨rfl,rfl⟩
 go_wp2_with fail
 refine HK.out.mono ?_
 rintro e w2 ⟨rfl,hq⟩
 have HQ:=hid hq
 clear hq
 go_wp2
 go_ret
 obtain ⟨L',hg⟩:=HQ.out
 exact ⟨rfl,got_wrote hg⟩
theorem write8C (hE:Eng0 W0 E bs fm) (hG:ENG st L none bs fm w) (hM:FM W0 st.files L fm w) {f nm b:ByteArray} (hm:fetC E nc ⟨8,f,nob⟩ [] st=some (.ok (.s b,lk'),st')) :
 Calls Tryz.prog 41 #[ptr bs, .int .i64 8, .string f, .string nm] w fun e w'=>e = .returned (.string b)∧Wrote W0 bs fm st L w st' w':=by
 have HK:=hid (reportW hE (ask_start hG hM) hm)
 clear hE hG hM hm
 go_enter Tryz.func41,Tryz.ntmps41
 go_wp2_with fail
 refine (looksC bs w).mono ?_
 rintro e w1 ⟨rfl,rfl⟩
 go_wp2_with fail
 refine HK.out.mono ?_
 rintro e w2 ⟨rfl,hq⟩
 have HQ:=hid hq
 clear hq
 go_wp2
 go_ret
 obtain ⟨L',hg⟩:=HQ.out
 exact ⟨rfl,got_wrote hg⟩
theorem writeToksC {O:Nat→Prop} {l:List Tok} {s:ByteArray} {ao:Option Addr} {c:Nat} {w:World} (hr:Row O w 170 (.slice ao l.length c) l.length (tokCells l)) (hs:s.size≤400) (hl:l=lexAll s) (hp:PT w.heap.size w) :
 Calls Tryz.prog 71 #[.slice ao l.length c] w fun e w'=>e = .returned (.string (joinT (l.map tokT)))∧Below w.heap.size w w':=by
 have hw:=lexWf s hs
 rw [←hl] at hw
 have hsz:∀ (i:Nat) (t:Tok),l[i]? = some t→t.text.size≤400∧t.line≤1000∧t.col≤1000:=fun i t ht=>tok_szs hs (i:=i) (by rw [←hl];exact ht)
 clear hl
 obtain ⟨a1,c1,e1,_,h2⟩:=hr
 obtain ⟨g,cur,h3,h4,h5,h6⟩:=h2 hw.1.pos
 injection e1 with e1 e2 e3
 rw [h3] at e1
 subst e1
 have h7:cur.toList.take (3 * l.length)=tokCells l:=by rw [←tokCells_length l];exact h6
 exact writeTokens_any l hw.1.le hsz g c w ⟨cur,h5,h7⟩ hp
theorem write2C (hpt:PT W0.heap.size W0) (hE:Eng0 W0 E bs fm) (hG:ENG st L none bs fm w) (hM:FM W0 st.files L fm w) {f nm:ByteArray} {l:List Tok} (hm:fetC E nc ⟨2,f,nob⟩ [] st=some (.ok (.t l,lk'),st')) :
 Calls Tryz.prog 41 #[ptr bs, .int .i64 2, .string f, .string nm] w fun e w'=>e = .returned (.string (txtV (.t l)))∧Wrote W0 bs fm st L w st' w':=by
 have HK:=hid (tokensW hE (ask_start hG hM) hm)
 have HP:=hid hpt
 clear hE hG hM hm hpt
 unfold txtV
 go_enter Tryz.func41,Tryz.ntmps41
 go_wp2_with fail
 refine (looksC bs w).mono ?_
 rintro e w1 ⟨rfl,rfl⟩
 go_wp2_with fail
 refine HK.out.mono ?_
 rintro e w2 ⟨ao,c,rfl,L',hg,hr,s,hs,hl⟩
 have HG:=hid hg
 have HT:Hid (Calls Tryz.prog 71 #[.slice ao l.length c] w2 fun e w'=>e = .returned (.string (joinT (l.map tokT)))∧Below w2.heap.size w2 w'):=hid (writeToksC hr hs hl (pt_up HP.out hg.s.m.low))
 clear hg hr hl
 go_wp2_with fail
 refine HT.out.mono ?_
 rintro e w3 ⟨rfl,hb⟩
 have HB:=hid hb
 clear hb
 go_wp2
 go_ret
 exact ⟨rfl,(got_wrote HG.out).below HB.out⟩
theorem write3C (hpt:PT W0.heap.size W0) (hE:Eng0 W0 E bs fm) (hG:ENG st L none bs fm w) (hM:FM W0 st.files L fm w) {f nm:ByteArray} {its:List Itx} {fl:Option Nat} (hm:fetC E nc ⟨3,f,nob⟩ [] st=some (.ok (.r its fl,lk'),st')) :
 Calls Tryz.prog 41 #[ptr bs, .int .i64 3, .string f, .string nm] w fun e w'=>e = .returned (.string (txtV (.r its fl)))∧Wrote W0 bs fm st L w st' w':=by
 have HK:=hid (treeW hE (ask_start hG hM) (by simp) (by have:=hM.low.size;simp;omega) hm)
 have HP:=hid hpt
 clear hE hG hM hm hpt
 unfold txtV
 obtain ⟨z,hz⟩:∃ z:Int,faultV fl = .int .i64 z:=by cases fl <;> exact ⟨_,rfl⟩
 have HZ:=hid hz
 go_enter Tryz.func41,Tryz.ntmps41
 go_wp2_with fail
 refine (looksC bs w).mono ?_
 rintro e w1 ⟨rfl,rfl⟩
 go_wp2_with fail
 refine HK.out.mono ?_
 rw [hz]
 clear hz
 rintro e w2 ⟨ao,c,rfl,L',hg,hr,s,hs,hts⟩
 have HG:=hid hg
 have hl:=its_len hs hts
 have HT:Hid (Calls Tryz.prog 73 #[.agg #[.slice ao its.length c, .int .i64 z]] w2 fun e w'=>e = .returned (.string (treeT (its.map lineX) fl))∧Below w2.heap.size w2 w'):=hid (by
  have h:=writeTree_ao (its.map itOf) (its.map lineX) (by simp) (lines_all hs (by rw [←hts])) (by simpa using hl) fl (fun b hb=>by
   have h1:=treeX_fault (lexWf s hs).1 w2 b (by rw [←hts];exact hb)
   have h2:=(lexWf s hs).1.le
   omega) ao c w2 (fun hp=>by
   have hp':0 < its.length:=by simpa using hp
   obtain ⟨g,cur,h1,h2,h3⟩:=trow_at hr hp'
   exact ⟨g,cur,h1,h2,by simpa using h3⟩) (pt_up HP.out hg.s.m.low)
  rw [HZ.out,List.length_map] at h
  exact h)
 clear hg hr hts hl
 go_wp2_with fail
 refine HT.out.mono ?_
 rintro e w3 ⟨rfl,hb⟩
 have HB:=hid hb
 clear hb
 go_wp2
 go_ret
 exact ⟨rfl,(got_wrote HG.out).below HB.out⟩
theorem write4C (hE:Eng0 W0 E bs fm) (hG:ENG st L none bs fm w) (hM:FM W0 st.files L fm w) {f nm:ByteArray} {l:List ByteArray} (hm:fetC E nc ⟨4,f,nob⟩ [] st=some (.ok (.x l,lk'),st')) :
 Calls Tryz.prog 41 #[ptr bs, .int .i64 4, .string f, .string nm] w fun e w'=>e = .returned (.string (txtV (.x l)))∧Wrote W0 bs fm st L w st' w':=by
 have HK:=hid (exportsW hE (ask_start hG hM) hm)
 clear hE hG hM hm
 go_enter Tryz.func41,Tryz.ntmps41
 go_wp2_with fail
 refine (looksC bs w).mono ?_
 rintro e w1 ⟨rfl,rfl⟩
 go_wp2_with fail
 refine HK.out.mono ?_
 rintro e w2 ⟨ao,c,rfl,L',hg,hr,s,hs,hl⟩
 have HG:=hid hg
 have HT:=hid (joinC hr (by rw [hl];exact Nat.le_trans (expX_len _) (its_len hs (fl:=(treeX (lexAll s)).2) rfl)) (fun x hx=>exp_short (s:=s) (by rw [←hl];exact hx)))
 clear hg hr hl
 go_wp2_with fail
 refine HT.out.mono ?_
 rintro e w3 ⟨rfl,hb⟩
 have HB:=hid hb
 clear hb
 go_wp2
 go_ret
 exact ⟨rfl,(got_wrote HG.out).below HB.out⟩
end
end Go.Proofs.YtoagooclaphdbaaGreatDoor
namespace Go.Proofs.YtoagooclaphdbaaGreatDoor
section
variable {V:Type} {wp:K→Prog V} {lp:V} {F:Txt} {a:K→V} {U:List K} {M Q:Nat}
def St.drop (st:St V) (k:K):St V :=
 match st.sl k with
 | none=>st
 | some m => { st.put k { m with val:=none } with kept:=st.kept.erase k }
def usd (st:St V) (k:K):Nat:=((st.sl k).map (·.used)).getD 0
inductive Drops (n:Nat):St V→St V→Prop
 | done {st:St V}:st.kept.length≤n→Drops n st st
 | more {st st':St V} {k:K}:n < st.kept.length→k∈st.kept→(∀ j∈st.kept,usd st k≤usd st j)→Drops n (st.drop k) st'→Drops n st st'
theorem Inv.drop {st:St V} (h:Inv F a st) {k:K} (hk:k∈st.kept):Inv F a (st.drop k)∧(∀ j,actB (st.drop k) j=actB st j)∧(st.drop k).uses=st.uses∧(st.drop k).began=st.began∧(st.drop k).kept=st.kept.erase k∧(∀ j,j≠k→(st.drop k).sl j=st.sl j)∧(st.drop k).rev=st.rev:=by
 obtain ⟨m,x,hm,hx⟩:=(h.kp k).1 hk
 have e:st.drop k = { st.put k { m with val:=none } with kept:=st.kept.erase k }:=by simp [St.drop,hm]
 have hsl:∀ j,(st.drop k).sl j=if j=k then some { m with val:=none } else st.sl j:=fun j=>by rw [e];rfl
 have hmo:=h.mem k m hm
 refine ⟨⟨by rw [e];exact h.files,fun j n hj => ?_,fun j => ?_,?_⟩,fun j => ?_,by rw [e];rfl,by rw [e];rfl,by rw [e],fun j hj=>by rw [hsl,if_neg hj],by rw [e];rfl⟩
 · have h3:(st.drop k).rev=st.rev∧(st.drop k).uses=st.uses:=by rw [e];exact ⟨rfl,rfl⟩
   rw [hsl] at hj
   rw [h3.1,h3.2]
   by_cases hjk:j=k
   · rw [if_pos hjk] at hj
     cases hj
     subst hjk
     exact ⟨fun _=>rfl,hmo.v1,fun x hx=>by simp at hx,hmo.us⟩
   · rw [if_neg hjk] at hj
     exact h.mem j n hj
 · have h3:(st.drop k).kept=st.kept.erase k:=by rw [e]
   rw [h3,hsl,h.nd.mem_erase_iff]
   by_cases hjk:j=k
   · subst hjk
     rw [if_pos rfl]
     constructor
     · rintro ⟨h1,_⟩;exact absurd rfl h1
     · rintro ⟨m1,y,h1,hy⟩;cases h1;simp at hy
   · rw [if_neg hjk,←h.kp j]
     exact ⟨fun h1=>h1.2,fun h1=>⟨hjk,h1⟩⟩
 · have h3:(st.drop k).kept=st.kept.erase k:=by rw [e]
   rw [h3];exact h.nd.erase k
 · unfold actB
   rw [hsl]
   by_cases hjk:j=k
   · subst hjk;rw [if_pos rfl,hm]
   · rw [if_neg hjk]
theorem drop_same (st:St V) (k:K):(st.drop k).files=st.files∧(st.drop k).src=st.src∧(∀ j,(st.drop k).sl j=none↔st.sl j=none)∧(st.drop k).began=st.began:=by
 unfold St.drop
 cases hk:st.sl k with
 | none=>exact ⟨rfl,rfl,fun _=>Iff.rfl,rfl⟩
 | some m =>
  refine ⟨rfl,rfl,fun j => ?_,rfl⟩
  by_cases hj:j=k
  · subst hj;simp [St.put,hk]
  · simp [St.put,hj]
theorem drops_same {n:Nat} {st st':St V} (hd:Drops n st st'):st'.files=st.files∧st'.src=st.src∧(∀ j,st'.sl j=none↔st.sl j=none)∧st'.began=st.began:=by
 induction hd with
 | done _=>exact ⟨rfl,rfl,fun _=>Iff.rfl,rfl⟩
 | @more st st' k _ _ _ _ ih =>
  obtain ⟨a,b,c,d⟩:=drop_same st k
  exact ⟨ih.1.trans a,ih.2.1.trans b,fun j=>(ih.2.2.1 j).trans (c j),ih.2.2.2.trans d⟩
theorem drops_none {n:Nat} {st st':St V} (hd:Drops n st st') (hl:st.kept.length≤n):st'=st:=by
 cases hd with
 | done _=>rfl
 | more h _ _ _=>omega
structure Kpt (F:Txt) (a:K→V) (n:Nat) (st st':St V):Prop where
 inv:Inv F a st'
 act:∀ j,actB st' j=actB st j
 uses:st'.uses=st.uses
 began:st'.began=st.began
 len:st'.kept.length≤n
 last:∀ k,Last st k→1≤n→Last st' k
 rev:st'.rev=st.rev
theorem drops_ok {n:Nat} {st st':St V} (hd:Drops n st st'):Inv F a st→Kpt F a n st st':=by
 induction hd with
 | done h=>exact fun hi=>⟨hi,fun _=>rfl,rfl,rfl,h,fun _ h _=>h,rfl⟩
 | @more st st' k h1 h2 h3 _ ih =>
  intro hi
  obtain ⟨a1,a2,a3,a4,a5,a6,a7⟩:=hi.drop h2
  have g:=ih a1
  refine ⟨g.inv,fun j=>(g.act j).trans (a2 j),g.uses.trans a3,g.began.trans a4,g.len,fun j hj hn=>g.last j ?_ hn,g.rev.trans a7⟩
  obtain ⟨m,e1,e2,e3,e4,e5⟩:=hj
  have hjk:j≠k:=by
   rintro rfl
   obtain ⟨i,hi1,hi2⟩:∃ i∈st.kept,i≠j:=by
    have hl:2≤st.kept.length:=by omega
    have hnd:=hi.nd
    match st.kept,hl,hnd with
    | x :: y :: l,_,hnd =>
     by_cases hx:x=j
     · refine ⟨y,by simp,fun e => ?_⟩
       rw [List.nodup_cons] at hnd
       exact hnd.1 (by rw [hx,←e];simp)
     · exact ⟨x,by simp,hx⟩
   obtain ⟨mi,xi,ei,_⟩:=(hi.kp i).1 hi1
   have h4:=h3 i hi1
   have h5:=e5 i mi hi2 ei
   simp only [usd,e1,ei,Option.map_some,Option.getD_some] at h4
   omega
  refine ⟨m,by rw [a6 j hjk];exact e1,by rw [a3];exact e2,by rw [a7];exact e3,by rw [a5];exact (hi.nd.mem_erase_iff).2 ⟨hjk,e4⟩,fun i mi hij hsi => ?_⟩
  rw [a3]
  by_cases hik:i=k
  · subst hik
    obtain ⟨m0,x0,e0,_⟩:=(hi.kp i).1 h2
    have h4:=a1.mem i mi hsi
    have h5:=e5 i m0 hij e0
    have:mi.used=m0.used:=by
     have:(st.drop i).sl i=some { m0 with val:=none }:=by simp [St.drop,e0,St.put]
     rw [this] at hsi;cases hsi;rfl
    omega
  · rw [a6 i hik] at hsi
    exact e5 i mi hij hsi
def Idle (st:St V):Prop:=∀ k,actB st k=false
structure Asked (F:Txt) (a:K→V) (k:K) (st':St V):Prop where
 inv:Inv F a st'
 last:Last st' k
 idle:Idle st'
theorem Inv.beg {st:St V} (h:Inv F a st):Inv F a { st with began:=[] }:=⟨h.files,h.mem,h.kp,h.nd⟩
theorem Last.val {st:St V} {k:K} (h:Last st k) (hi:Inv F a st):st.val k=some (a k):=by
 obtain ⟨m,e1,e2,e3,e4,e5⟩:=h
 exact hi.valNow e4
theorem ask_first (hS:Spec wp lp F a) (hU:Uni wp F a U Q) (hM:M≤BIG) {k:K} (hk:k∈U) {st:St V} (hi:Inv F a st) (hid:Idle st) (hkl:st.kept.length+U.length < BIG) (hm:(1+U.length) * U.length+U.length≤M) (hu:st.uses+Q * M+1 < W64) (nc:Bool) :
 ∃ n st1,fetC (engM wp lp n) nc k [] { st with began:=[] }=some (.ok (a k,[.slot k]),st1)∧Asked F a k st1∧st1.uses≤st.uses+Q * M+1:=by
 have hi0:=hi.beg
 obtain ⟨f1,f2,f3,f4,f5,f6⟩:=hi0.find k
 have hact:∀ c,actB (({ st with began:=[] }:St V).find k) c=false:=fun c=>(f2.actB c).trans (hid c)
 have hun:Und U (({ st with began:=[] }:St V).find k)≤U.length:=List.countP_le_length
 have hin:Ina U (({ st with began:=[] }:St V).find k)≤U.length:=List.countP_le_length
 have hP:Pcd F a U M Q (({ st with began:=[] }:St V).find k):=by
  refine ⟨f1,?_,?_,?_⟩
  · have h7:(1+U.length) * Und U (({ st with began:=[] }:St V).find k)≤(1+U.length) * U.length:=Nat.mul_le_mul_left _ hun
    rw [psi_eq,f4]
    simp only [List.length_nil]
    omega
  · unfold KB;rw [f5];show st.kept.length+_ < BIG;omega
  · rw [us_eq,f6,f4];simpa using hu
 obtain ⟨out,st1,e,hp,hus,hout⟩:=eng_ok hS hU hM (Ina U (({ st with began:=[] }:St V).find k)+1) k _ hP hk f3 (fun c hc=>by rw [hact] at hc;cases hc) (by omega)
 have hsz:=hU.sz k hk
 cases out with
 | cyc c =>
  have h4:=hout.2.2.2.1
  rw [hact] at h4;cases h4
 | ok r =>
  obtain ⟨h1,h2⟩:=hout
  refine ⟨Ina U (({ st with began:=[] }:St V).find k)+1,st1,?_,⟨hp.inv,h2,fun c=>(hp.mono.actB c).trans (hact c)⟩,?_⟩
  · unfold fetC
    rw [if_neg (by omega),if_neg (by simp),e]
    simp [h2.val hp.inv,BIG]
  · rw [us_eq,us_eq,f6,f4] at hus
    have:st1.uses≤st1.uses+Q * (M - st1.began.length):=Nat.le_add_right _ _
    simp at hus
    omega
theorem ask_again {k:K} {st:St V} (hi:Inv F a st) (hid:Idle st) (hk:k∈st.kept) (hz:k.file.size≤BIG∧k.name.size≤BIG) (hu:st.uses+1 < W64) (nc:Bool) :
 ∃ st1,fetC (engM wp lp 1) nc k [] { st with began:=[] }=some (.ok (a k,[.slot k]),st1)∧Asked F a k st1∧st1.uses=st.uses+1∧st1.began = []∧st1.kept=st.kept:=by
 have hi0:=hi.beg
 obtain ⟨m,x,hm,hx⟩:=(hi0.kp k).1 hk
 have hmo:=hi0.mem k m hm
 have hfind:({ st with began:=[] }:St V).find k = { st with began:=[] }:=by unfold St.find;rw [hm]
 have ha:m.act=false:=by have:=hid k;unfold actB at this;simp only [show st.sl k=some m from hm] at this;exact this
 have hver:m.ver=some st.rev:=by
  cases hv:m.ver with
  | none=>rw [hmo.v0 hv] at hx;cases hx
  | some v=>rw [hmo.v1 v hv]
 have hi1:Inv F a (({ st with began:=[] }:St V).put k { m with act:=true }):=hi0.put hm ⟨hmo.v0,hmo.v1,hmo.v2,hmo.us⟩ rfl
 obtain ⟨b1,b2,b3,b4,b5,b6,b7⟩:=hi1.use (k:=k) hk hu
 have hs1:=b6 { m with act:=true } (by simp [St.put])
 have hin:inner wp (engM wp lp 0) k (({ st with began:=[] }:St V).put k { m with act:=true })=some (.ok (),(({ st with began:=[] }:St V).put k { m with act:=true }).use k):=by
  unfold inner
  rw [show (({ st with began:=[] }:St V).put k { m with act:=true }).sl k=some { m with act:=true } by simp [St.put]]
  simp only [hver]
  exact (if_pos rfl).trans (if_pos hk)
 have hset:engM wp lp 1 k { st with began:=[] }=some (.ok (),((({ st with began:=[] }:St V).put k { m with act:=true }).use k).leave k):=by
  show settleM wp lp (engM wp lp 0) k { st with began:=[] }=_
  unfold settleM
  have hm':st.sl k=some m:=hm
  simp only [hm',ha,Bool.false_eq_true,if_false,hin]
 have hpk:PostK F a [] k { st with began:=[] } ((({ st with began:=[] }:St V).put k { m with act:=true }).use k) :=
  ⟨b1,(Mono.put (st:=({ st with began:=[] }:St V)) (k:=k) (m':={ m with act:=true })).trans b2,by unfold KB;rw [b4];exact Nat.le_refl _⟩
 obtain ⟨c1,c2,c3,c4⟩:=leave_ok (M:=0) (Q:=0) hm ha hpk hs1
 have hl:=c4 b7
 refine ⟨_,?_,⟨c1.inv,hl,fun c=>(c1.mono.actB c).trans (hid c)⟩,?_,?_,?_⟩
 · unfold fetC
   rw [if_neg (by omega),if_neg (by simp),hfind,hset]
   simp [hl.val c1.inv,BIG]
 · unfold St.leave
   rw [hs1]
   exact b5
 · unfold St.leave
   rw [hs1]
   exact b3
 · unfold St.leave
   rw [hs1]
   exact b4
end
end Go.Proofs.YtoagooclaphdbaaGreatDoor

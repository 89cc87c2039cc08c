/-
  settle, by the model. settle keeps to the model. Works: what they leave. workOut: small facts. Looks: what is added to them. Looks: the engine stays, whatever is noted.
-/
import Derived.Test.YthibodlojlkppaaGreatDoorB15
set_option linter.unusedVariables false
set_option linter.unusedSectionVars false
set_option linter.unusedSimpArgs false
set_option maxRecDepth 100000
set_option maxHeartbeats 40000000

namespace Go.Proofs.YthibodlojlkppaaGreatDoor
open Go.RowKit
variable [DecidableEq K] [LawfulBEq Lk]
def EngPost (st:St V) (L:Lay) (bs:Nat) (fm:Value) (out:Out Unit) (st':St V) (w:World):Ending→World→Prop:=fun e w' =>
 ∃ L',Next st st' L L' w w'∧match out with
  | .ok _=>e = .returned (.tuple #[])∧ENG st' L' none bs fm w'
  | .error c=>e = .panicked (cycP c)∧c.kind=7∧ENG st' L' (some c) bs fm w'
def woF (kind:Nat):FuncId:=if kind=2 then 233 else if kind=3 then 238 else if kind=4 then 243 else 227
def loF (kind:Nat):FuncId:=if kind=2 then 232 else if kind=3 then 237 else if kind=4 then 242 else 225
theorem mt_wo (k:K):MT (TI k) (woF k.kind):=by
 unfold TI woF
 repeat' split
 · exact mtT
 · exact mtR
 · exact mtX
 · exact mtS
theorem ltS:LT 165 225:=⟨fun _ _=>by kernel_rfl,fun _ _=>by kernel_rfl,fun _ _=>by kernel_rfl⟩
theorem ltT:LT 178 232:=⟨fun _ _=>by kernel_rfl,fun _ _=>by kernel_rfl,fun _ _=>by kernel_rfl⟩
theorem ltR:LT 184 237:=⟨fun _ _=>by kernel_rfl,fun _ _=>by kernel_rfl,fun _ _=>by kernel_rfl⟩
theorem ltX:LT 189 242:=⟨fun _ _=>by kernel_rfl,fun _ _=>by kernel_rfl,fun _ _=>by kernel_rfl⟩
theorem lt_lo (k:K):LT (TI k) (loF k.kind):=by
 unfold TI loF
 repeat' split
 · exact ltT
 · exact ltR
 · exact ltX
 · exact ltS
def SetC (W0:World) (E:Eng V) (bs:Nat) (fm:Value):Prop:=∀ (st:St V) (L:Lay) (w:World) (k:K) (out:Out Unit) (st':St V),ENG st L none bs fm w→FM W0 st.files L fm w→st.sl k≠none→E k st=some (out,st') →
 Calls Tryz.prog 87 #[slotV L k, .bool true] w (EngPost st L bs fm out st' w)
def WoC (W0:World) (wp:K→Prog V) (E:Eng V) (bs:Nat) (fm:Value):Prop:=∀ (st:St V) (L:Lay) (w:World) (k:K) (out:Out Unit) (st':St V),ENG st L none bs fm w→FM W0 st.files L fm w→st.sl k≠none→Go.Proofs.YthibodlojlkppaaGreatDoor.workOut wp E k st=some (out,st') →
 Calls Tryz.prog (woF k.kind) #[ptr (L.bk k)] w (EngPost st L bs fm out st' w)
theorem ENGx.act {st:St V} {L:Lay} {lp:Option K} {bs:Nat} {fm q sm bg kv:Value} {arr:List K} {w:World} (h:ENGx st L lp bs fm q sm bg kv arr w) {k:K} {m:Memo V} (hk:st.sl k=some m) (b:Bool):ENGx (st.put k { m with act:=b }) L lp bs fm q sm bg kv arr (w.setCell ⟨L.bk k,4,none⟩ (.bool b)) :=
 h.set (m':={ m with act:=b }) (lp':=lp) hk 4 (.bool b) (fun _ _ _=>rfl) rfl rfl fun _ _=>rfl
theorem ENG.leave {st:St V} {L:Lay} {lp:Option K} {bs:Nat} {fm:Value} {w:World} (h:ENG st L lp bs fm w) {k:K} (hk:st.sl k≠none):ENG (st.leave k) L (if lp=some k then none else lp) bs fm ((w.setCell ⟨L.bk k,4,none⟩ (.bool false)).setCell ⟨L.bk k,5,none⟩ (.bool false))∧Next st (st.leave k) L L w ((w.setCell ⟨L.bk k,4,none⟩ (.bool false)).setCell ⟨L.bk k,5,none⟩ (.bool false)):=by
 obtain ⟨q,sm,bg,kv,arr,h⟩:=h
 obtain ⟨m,hm⟩:=Option.ne_none_iff_exists'.1 hk
 have e:st.leave k=st.put k { m with act:=false }:=by simp [St.leave,hm]
 have h1:=h.act hm false
 have hm1:(st.put k { m with act:=false }).sl k=some { m with act:=false }:=by simp [St.put]
 have h2:=h1.set (m':={ m with act:=false }) (lp':=if lp=some k then none else lp) hm1 5 (.bool false) (fun x pl vs=>by
  have:decide ((if lp=some k then none else lp)=some k)=false:=by
   split
   · simp
   · rename_i hh;simp [hh]
  rw [this];rfl) rfl rfl fun j hj=>by
   split
   · rename_i hh;rw [hh];simp [Ne.symm hj]
   · rfl
 rw [put_self hm1] at h2
 rw [e]
 refine ⟨⟨q,sm,bg,kv,arr,h2⟩,Next.put ?_⟩
 have ho:=(h.cell k m hm).own
 exact ((FR.refl L.own w).setCell ⟨L.bk k,4,none⟩ (.inl ho) _).setCell ⟨L.bk k,5,none⟩ (.inl ho) _
theorem SB.slotcells {w:World} {p:Nat} {k:K} {bs:Nat} {m:Memo V} {lp:Bool} {x:Aux} {pl:Int} {vs:List Value} (h:SB w p (TB k) (slotC bs k m lp x pl vs)) :
 w.cell? ⟨p,4,none⟩=some (.bool m.act)∧w.cell? ⟨p,5,none⟩=some (.bool lp)∧w.frozen? ⟨p,4,none⟩=false∧w.frozen? ⟨p,5,none⟩=false:=⟨h.cell (i:=4) rfl,h.cell (i:=5) rfl,h.fr 4,h.fr 5⟩
theorem LV_of {st:St V} {L L':Lay} {lp:Option K} {bs sb:Nat} {fm:Value} {w:World} (h:ENG st L' lp bs fm w) {k:K} (hk:actK st k) (hb:L'.bk k=L.bk k) (hbox:w.cell? ⟨sb,0,none⟩=some (.iface (TI k) (.pointer (some ⟨L.bk k,0,none⟩)))):LV (L.bk k) sb (TI k) (decide (lp=some k)) w:=by
 obtain ⟨m,hm,ha⟩:=hk
 obtain ⟨x,pl,vs,sb1,_⟩:=h.sl hm
 rw [hb] at sb1
 obtain ⟨a,b,c,d⟩:=sb1.slotcells
 rw [ha] at a
 exact ⟨a,b,c,d,hbox⟩
theorem set_end {wp:K→Prog V} {E:Eng V} {st0 st1:St V} {L:Lay} {bs:Nat} {fm:Value} {w W1:World} {k:K} (hsl0:st0.sl k≠none) (hN1:Next st0 st1 L L w W1) (hk0:actK st1 k)
 (hbox:W1.heap[w.heap.size]? = some (.cells #[.iface (TI k) (.pointer (some ⟨L.bk k,0,none⟩))] 94)) (hnb:¬ L.own w.heap.size) {out2:Out Unit} {st2:St V} (hact:actK st2 k) (h7:∀ c,out2 = .cyc c→c.kind=7∧k.kind=7)
 {out:Out Unit} {st':St V} (hmo:∀ a,out2 = .ok a→out = .ok ()∧st'=st2.leave k) (hmc:∀ c,out2 = .cyc c→(c=k∧∃ s,answer st2 k (.s cyc_)=some s∧out = .ok ()∧st'=s.leave k)∨(c≠k∧out = .cyc c∧st'=st2.leave k)) :
 (∀ e w1,EngPost st1 L bs fm out2 st2 W1 e w1→(e = .returned (.tuple #[])∧LV (L.bk k) w.heap.size (TI k) false w1)∨∃ T' pv,e = .panicked [{ v := .iface T' pv,recovered:=false }]∧(LV (L.bk k) w.heap.size (TI k) false w1∨LV (L.bk k) w.heap.size (TI k) true w1)) ∧
 (∀ w1 T' pv,EngPost st1 L bs fm out2 st2 W1 (.panicked [{ v := .iface T' pv,recovered:=false }]) w1→w1.cell? ⟨L.bk k,5,none⟩=some (.bool true)→Calls Tryz.prog (loF k.kind) #[.pointer (some ⟨L.bk k,0,none⟩)] w1 fun e w2=>e = .returned (.tuple #[])∧∃ st3 L',answer st2 k (.s cyc_)=some st3∧out2 = .cyc k∧Next st0 st3 L L' w w2∧ENG st3 L' (some k) bs fm w2∧actK st3 k) ∧
 (∀ w1,(∃ st3 L',answer st2 k (.s cyc_)=some st3∧out2 = .cyc k∧Next st0 st3 L L' w w1∧ENG st3 L' (some k) bs fm w1∧actK st3 k)→w1.cell? ⟨L.bk k,4,none⟩=some (.bool true)∧w1.cell? ⟨L.bk k,5,none⟩=some (.bool true)∧w1.frozen? ⟨L.bk k,4,none⟩=false∧w1.frozen? ⟨L.bk k,5,none⟩=false) ∧
 (∀ e w',SetPost (L.bk k) (EngPost st1 L bs fm out2 st2 W1) (fun w1 => ∃ st3 L',answer st2 k (.s cyc_)=some st3∧out2 = .cyc k∧Next st0 st3 L L' w w1∧ENG st3 L' (some k) bs fm w1∧actK st3 k) e w'→EngPost st0 L bs fm out st' w e w'):=by
 have hsl1:st1.sl k≠none:=by obtain ⟨m,hm,_⟩:=hk0;rw [hm];simp
 have hsl2:st2.sl k≠none:=by obtain ⟨m,hm,_⟩:=hact;rw [hm];simp
 have hbox2:∀ {L':Lay} {w1:World},Next st1 st2 L L' W1 w1→w1.cell? ⟨w.heap.size,0,none⟩=some (.iface (TI k) (.pointer (some ⟨L.bk k,0,none⟩))):=fun hN=>heap_cell (i:=0) (hN.blk hbox hnb).1
 have hbk2:∀ {L':Lay} {w1:World},Next st1 st2 L L' W1 w1→L'.bk k=L.bk k:=fun hN=>(hN.bk k hsl1).2
 refine ⟨?_,?_,?_,?_⟩
 · rintro e w1 ⟨L',hN,h⟩
   cases out2 with
   | ok a =>
    obtain ⟨rfl,hE⟩:=h
    exact .inl ⟨rfl,LV_of hE hact (hbk2 hN) (hbox2 hN)⟩
   | error c =>
    obtain ⟨rfl,h7c,hE⟩:=h
    refine .inr ⟨_,_,rfl,?_⟩
    have:=LV_of hE hact (hbk2 hN) (hbox2 hN)
    by_cases hc:c=k
    · right;simpa [hc] using this
    · left;simpa [hc] using this
 · rintro w1 T' pv ⟨L',hN,h⟩ h5
   cases out2 with
   | ok a=>exact absurd h.1 (by simp)
   | error c =>
    obtain ⟨he,h7c,hE⟩:=h
    have hck:c=k:=by
     have:=(LV_of hE hact (hbk2 hN) (hbox2 hN)).2.1
     rw [h5] at this
     simp at this
     exact this
    subst hck
    obtain ⟨st3,hs3,_⟩:∃ s,answer st2 c (.s cyc_)=some s∧out = .ok ()∧st'=s.leave c:=by
     rcases hmc c rfl with h | h
     · exact h.2
     · exact absurd rfl h.1
    have hlo:=loopOutS hE h7c hs3
    rw [hbk2 hN] at hlo
    rw [show loF c.kind=225 by simp [loF,h7c]]
    refine hlo.mono ?_
    rintro e w2 ⟨he2,L2,hE2,hN2⟩
    exact ⟨he2,st3,L2,hs3,rfl,(hN1.trans hN).trans hN2,hE2,act_answer hs3 hact⟩
 · rintro w1 ⟨st3,L',h1,h2,h3,h4,m3,hm3,ha3⟩
   obtain ⟨x,pl,vs,sb,_⟩:=h4.sl hm3
   have hb:=(h3.bk k hsl0).2
   rw [hb] at sb
   obtain ⟨a,b,c,d⟩:=sb.slotcells
   rw [ha3] at a
   exact ⟨a,by simpa using b,c,d⟩
 · rintro e w' (⟨w1,⟨L',hN,h⟩,rfl,rfl⟩ | ⟨w1,T',pv,⟨L',hN,h⟩,h5,rfl,rfl⟩ | ⟨w1,⟨st3,L',h1,h2,h3,h4,h5⟩,rfl,rfl⟩)
   · cases out2 with
     | error c=>exact absurd h.1 (by simp)
     | ok a =>
      obtain ⟨rfl,rfl⟩:=hmo a rfl
      have hl:=h.2.leave hsl2
      rw [hbk2 hN] at hl
      exact ⟨L',(hN1.trans hN).trans hl.2,rfl,by simpa using hl.1⟩
   · cases out2 with
     | ok a=>exact absurd h.1 (by simp)
     | error c =>
      obtain ⟨he,h7c,hE⟩:=h
      have hck:c≠k:=fun e0=>by
       have:=(LV_of hE hact (hbk2 hN) (hbox2 hN)).2.1
       rw [h5] at this
       simp [e0] at this
      obtain ⟨rfl,rfl⟩:out = .cyc c∧st'=st2.leave k:=by
       rcases hmc c rfl with h | h
       · exact absurd h.1 hck
       · exact h.2
      have hl:=hE.leave hsl2
      rw [hbk2 hN] at hl
      refine ⟨L',(hN1.trans hN).trans hl.2,he,h7c,?_⟩
      have:=hl.1
      simpa [hck] using this
   · subst h2
     obtain ⟨rfl,rfl⟩:out = .ok ()∧st'=st3.leave k:=by
      rcases hmc k rfl with ⟨_,s,e1,e2,e3⟩ | h
      · rw [h1] at e1;cases e1
        exact ⟨e2,e3⟩
      · exact absurd rfl h.1
     have hs3:st3.sl k≠none:=by obtain ⟨m,hm,_⟩:=h5;rw [hm];simp
     have hl:=h4.leave hs3
     rw [(h3.bk k hsl0).2] at hl
     exact ⟨L',h3.trans hl.2,rfl,by simpa using hl.1⟩
theorem settleC {W0:World} {wp:K→Prog V} {E:Eng V} {bs:Nat} {fm:Value} (hE:KeepsAct E) (hW:WoC W0 wp E bs fm):SetC W0 (settleM wp (.s cyc_) E) bs fm:=by
 intro st L w k out st' hG hFM hk hm
 obtain ⟨m,hsl⟩:=Option.ne_none_iff_exists'.1 hk
 unfold settleM at hm
 rw [hsl] at hm
 simp only at hm
 obtain ⟨x,pl,vs,sb,hval,hown,hpl1,hpl2⟩:=hG.sl hsl
 obtain ⟨q,sm,bg,kv,arr,hx⟩:=id hG
 have hp:=heap_lt sb
 have hbs:=heap_lt hx.s
 have hr:w.cell? ⟨bs,1,none⟩=some (.int .i64 st.rev):=heap_cell (i:=1) hx.s
 have hne:bs≠L.bk k:=fun e=>by
  have h1:=hx.s
  rw [e,sb] at h1
  injection h1 with h1;injection h1 with _ h1
  exact (TB_ne (k:=k)).1 h1
 have hnb:¬ L.own w.heap.size:=fun e=>Nat.lt_irrefl _ (hx.olt _ e)
 have c0:w.cell? ⟨L.bk k,0,none⟩=some (.pointer (some ⟨bs,1,none⟩)):=sb.cell (i:=0) rfl
 have c1:w.cell? ⟨L.bk k,1,none⟩=some (.int .i64 k.kind):=sb.cell (i:=1) rfl
 have c2:w.cell? ⟨L.bk k,2,none⟩=some (.string k.file):=sb.cell (i:=2) rfl
 have c3:w.cell? ⟨L.bk k,3,none⟩=some (.string k.name):=sb.cell (i:=3) rfl
 have c7:w.cell? ⟨L.bk k,7,none⟩=some (verV m.ver):=sb.cell (i:=7) rfl
 have c10:w.cell? ⟨L.bk k,10,none⟩=some (.int .i64 pl):=sb.cell (i:=10) rfl
 obtain ⟨c4,c5,g4,g5⟩:=sb.slotcells
 cases ha:m.act with
 | true =>
  rw [ha] at hm c4
  simp only [if_true] at hm
  split at hm
  · cases hm
  · rename_i h7
    cases hm
    have hk7:k.kind=7:=by simpa using h7
    refine (settleA (TI k) (woF k.kind) (mt_wo k) (L.bk k) k.kind k.file k.name _ w c1 c2 c3 c4 c5 g5 hp).mono ?_
    rintro e w' ⟨rfl,rfl⟩
    have h1:=hx.set (m':=m) (lp':=some k) hsl 5 (.bool true) (fun x pl vs=>by simp [slotC]) rfl rfl fun j hj=>by simp [Ne.symm hj]
    rw [put_self hsl] at h1
    have hb:=below_newK (w.setCell ⟨L.bk k,5,none⟩ (.bool true)) (.cells #[.iface (TI k) (.pointer (some ⟨L.bk k,0,none⟩))] 94)
    refine ⟨L,(Next.below ⟨fun _ h=>⟨h,rfl⟩,fun _ h=>⟨h,rfl⟩,fun _ h => .inl h,(FR.refl _ _).setCell _ (.inl hown) _⟩ hb),rfl,hk7,⟨q,sm,bg,kv,arr,h1.below hb⟩⟩
 | false =>
  rw [ha] at hm c4
  simp only [Bool.false_eq_true,if_false] at hm
  have hb1:=below_newK (w.setCell ⟨L.bk k,4,none⟩ (.bool true)) (.cells #[.iface (TI k) (.pointer (some ⟨L.bk k,0,none⟩))] 94)
  have h1:=(hx.act hsl true).below hb1
  have hN1:Next st (st.put k { m with act:=true }) L L w ((w.setCell ⟨L.bk k,4,none⟩ (.bool true)).alloc (.cells #[.iface (TI k) (.pointer (some ⟨L.bk k,0,none⟩))] 94)) :=
   Next.below (Next.put ((FR.refl _ _).setCell _ (.inl hown) _)) hb1
  have hbox:((w.setCell ⟨L.bk k,4,none⟩ (.bool true)).alloc (.cells #[.iface (TI k) (.pointer (some ⟨L.bk k,0,none⟩))] 94)).heap[w.heap.size]? = some (.cells #[.iface (TI k) (.pointer (some ⟨L.bk k,0,none⟩))] 94):=by
   have:=new_heap (w.setCell ⟨L.bk k,4,none⟩ (.bool true)) (.cells #[.iface (TI k) (.pointer (some ⟨L.bk k,0,none⟩))] 94)
   rwa [show (w.setCell ⟨L.bk k,4,none⟩ (.bool true)).heap.size=w.heap.size by simp] at this
  have hk1:actK (st.put k { m with act:=true }) k:=⟨{ m with act:=true },by simp [St.put],rfl⟩
  have hs1:(st.put k { m with act:=true }).sl k≠none:=by simp [St.put]
  have hG1:ENG (st.put k { m with act:=true }) L none bs fm _:=⟨q,sm,bg,kv,arr,h1⟩
  cases hi:inner wp E k (st.put k { m with act:=true }) with
  | none=>rw [hi] at hm;cases hm
  | some r =>
   obtain ⟨out2,st2⟩:=r
   rw [hi] at hm
   have hact:=inner_act hE hi hk1
   obtain ⟨q1,q2,q3,q4⟩:=set_end (wp:=wp) (E:=E) hk hN1 hk1 hbox hnb hact.1 hact.2 (out:=out) (st':=st') (fun a e=>by
    subst e
    cases hm;exact ⟨rfl,rfl⟩) (fun c e=>by
    subst e
    simp only at hm
    by_cases hck:c=k
    · rw [if_pos hck] at hm
      obtain ⟨s,hs,e⟩:=Option.map_eq_some_iff.1 hm
      cases e
      exact .inl ⟨hck,s,hs,rfl,rfl⟩
    · rw [if_neg hck] at hm
      split at hm
      · cases hm
      · cases hm
        exact .inr ⟨hck,rfl,rfl⟩)
   have hsl1:(st.put k { m with act:=true }).sl k=some { m with act:=true }:=by simp [St.put]
   unfold inner at hi
   rw [hsl1] at hi
   simp only at hi
   have hrev:(st.put k { m with act:=true }).rev=st.rev:=rfl
   have hkept:(st.put k { m with act:=true }).kept=st.kept:=rfl
   rw [hrev,hkept] at hi
   by_cases hv:m.ver=some st.rev
   · rw [if_pos hv] at hi
     rw [hv] at c7
     by_cases hkp:k∈st.kept
     · rw [if_pos hkp] at hi
       cases hi
       have hu:=use_ok hG1 (k:=k) hs1 fun e=>absurd hkp e
       refine (settleU (TI k) (woF k.kind) (mt_wo k) (L.bk k) bs st.rev pl (hpl2 hkp) w c0 c4 c7 g4 c10 hr hne hp hbs (fun w1=>EngPost (st.put k { m with act:=true }) L bs fm (.ok ()) ((st.put k { m with act:=true }).use k) _ (.returned (.tuple #[])) w1) (fun w1 hq => ?_) (hu.mono fun e w1 ⟨h1,L',h2,h3⟩=>⟨h1,L',h3,rfl,h2⟩)).mono ?_
       · rcases q1 _ _ hq with ⟨_,h⟩ | ⟨T',pv,h,_⟩
         · exact h
         · cases h
       · rintro e w' ⟨rfl,w1,hq,rfl⟩
         exact q4 _ _ (.inl ⟨w1,hq,rfl,rfl⟩)
     · rw [if_neg hkp] at hi
       have hpl:=hpl1 hkp
       exact (settleD (TI k) (woF k.kind) (loF k.kind) (mt_wo k) (lt_lo k) (L.bk k) bs st.rev pl (by rw [hpl];rfl) w c0 c4 c7 g4 c10 hr hne hp hbs _ _ q1 q2 q3 (hW _ _ _ _ _ _ hG1 (FM.next (F:=st.files) hFM hN1) hs1 hi)).mono q4
   · rw [if_neg hv] at hi
     split at hi
     · rename_i hvn
       have hvn:m.ver=none:=hvn
       rw [hvn] at c7
       exact (settleN (TI k) (woF k.kind) (loF k.kind) (mt_wo k) (lt_lo k) (L.bk k) bs st.rev (by omega) w c0 c4 c7 g4 hr hne hp hbs _ _ q1 q2 q3 (hW _ _ _ _ _ _ hG1 (FM.next (F:=st.files) hFM hN1) hs1 hi)).mono q4
     · cases hi
structure LKS (st:St V) (L:Lay) (bs lb B:Nat) (lk:List Lk) (w:World):Prop where
 blk:∃ lv,w.heap[lb]? = some (.cells #[.pointer (some ⟨bs,1,none⟩),lv] 109)∧w.ownsRow B 169 1 lv lk.length (lk.map (lkV L))∧∀ g,lv.ownBlock=some g→¬ L.own g
 nb:¬ L.own lb
 ge:B≤w.heap.size
 ex:∀ l∈lk,match l with | .inl f=>st.src f≠none | .inr j=>st.sl j≠none
 len:lk.length≤BIG
def WO (L:Lay) (lb B:Nat) (w:World) (b:Nat):Prop:=L.own b∨b=lb∨(B≤b∧∃ cs,w.heap[b]? = some (.cells cs 169))
structure WNext (lb B:Nat) (st st':St V) (L L':Lay) (w w':World):Prop where
 bk:∀ k,st.sl k≠none→st'.sl k≠none∧L'.bk k=L.bk k
 sb:∀ f,st.src f≠none→st'.src f≠none∧L'.sb f=L.sb f
 own:∀ b,L'.own b→L.own b∨w.heap.size≤b
 fr:FR (WO L lb B w) w w'
theorem WNext.refl (lb B:Nat) (st:St V) (L:Lay) (w:World):WNext lb B st st L L w w:=⟨fun _ h=>⟨h,rfl⟩,fun _ h=>⟨h,rfl⟩,fun _ h => .inl h,FR.refl _ _⟩
theorem WNext.trans {lb B:Nat} {st st1 st2:St V} {L L1 L2:Lay} {w w1 w2:World} (h:WNext lb B st st1 L L1 w w1) (g:WNext lb B st1 st2 L1 L2 w1 w2):WNext lb B st st2 L L2 w w2 :=
 ⟨fun k hk=>⟨(g.bk k (h.bk k hk).1).1,(g.bk k (h.bk k hk).1).2.trans (h.bk k hk).2⟩,fun f hf=>⟨(g.sb f (h.sb f hf).1).1,(g.sb f (h.sb f hf).1).2.trans (h.sb f hf).2⟩,fun b hb=>by
  rcases g.own b hb with h1 | h1
  · exact h.own b h1
  · exact .inr (Nat.le_trans h.fr.size h1),h.fr.trans g.fr fun i hi=>by
  rcases hi with hi | hi | ⟨hi,cs,hc⟩
  · rcases h.own i hi with h1 | h1
    · exact .inl (.inl h1)
    · exact .inr h1
  · exact .inl (.inr (.inl hi))
  · by_cases hlt:i < w.heap.size
    · left
      by_cases ho:WO L lb B w i
      · exact ho
      · exact .inr (.inr ⟨hi,cs,by rw [←h.fr.block i hlt ho];exact hc⟩)
    · exact .inr (by omega)⟩
theorem Next.toW {lb B:Nat} {st st':St V} {L L':Lay} {w w':World} (h:Next st st' L L' w w'):WNext lb B st st' L L' w w':=⟨h.bk,h.sb,h.own,h.fr.mono fun i hi => .inl (.inl hi)⟩
theorem WNext.below {lb B:Nat} {st st':St V} {L L':Lay} {w w1 w2:World} (h:WNext lb B st st' L L' w w1) (hb:Below w1.heap.size w1 w2):WNext lb B st st' L L' w w2:=⟨h.bk,h.sb,h.own,h.fr.trans (O':=fun _=>False) (FR.of_below hb) fun _ x=>x.elim⟩
theorem WNext.next {lb B:Nat} {st st':St V} {L L':Lay} {w w':World} (h:WNext lb B st st' L L' w w') {st0:St V} {L0:Lay} {w0:World} (g:Next st0 st L0 L w0 w) (hB:w0.heap.size≤B) (hlb:w0.heap.size≤lb):Next st0 st' L0 L' w0 w' :=
 ⟨fun k hk=>⟨(h.bk k (g.bk k hk).1).1,(h.bk k (g.bk k hk).1).2.trans (g.bk k hk).2⟩,fun f hf=>⟨(h.sb f (g.sb f hf).1).1,(h.sb f (g.sb f hf).1).2.trans (g.sb f hf).2⟩,fun b hb=>by
  rcases h.own b hb with h1 | h1
  · exact g.own b h1
  · exact .inr (Nat.le_trans g.fr.size h1),g.fr.trans h.fr fun i hi=>by
  rcases hi with hi | hi | hi
  · exact g.own i hi
  · exact .inr (hi ▸ hlb)
  · exact .inr (Nat.le_trans hB hi.1)⟩
theorem WNext.blk {lb B:Nat} {st st':St V} {L L':Lay} {w w':World} (h:WNext lb B st st' L L' w w') {b:Nat} {o:Obj} (hb:w.heap[b]? = some o) (h1:¬ L.own b) (h2:b≠lb) (h3:∀ cs,o ≠ .cells cs 169):w'.heap[b]? = some o∧¬ L'.own b:=by
 have:=heap_lt hb
 refine ⟨h.fr.heap hb fun e => ?_,fun e=>(h.own b e).elim h1 fun x=>by omega⟩
 rcases e with e | e | ⟨_,cs,e⟩
 · exact h1 e
 · exact h2 e
 · rw [hb] at e;injection e with e;exact h3 cs e
theorem FM.wnext {W0:World} {F:ByteArray→Option ByteArray} {lb B:Nat} {st st':St V} {L L':Lay} {fm:Value} {w w':World} (h:FM W0 F L fm w) (hN:WNext lb B st st' L L' w w') {cs:Array Value} {T:TypeId} (hlb:w.heap[lb]? = some (.cells cs T)) (h1:W0.heap.size≤lb) (h2:W0.heap.size≤B):FM W0 F L' fm w':=by
 refine ⟨h.sm,h.mp.imp id ?_,⟨hN.fr.os.trans h.low.os,hN.fr.tape.trans h.low.tape,hN.fr.output.trans h.low.output,Nat.le_trans h.low.size hN.fr.size,fun k hk => ?_⟩,fun b hb => ?_⟩
 · rintro ⟨b,es,n,h1,h2,h3,h4⟩
   have:=hN.blk h3 h2 (fun e=>by rw [e,hlb] at h3;cases h3) (fun cs e=>by cases e)
   exact ⟨b,es,n,h1,this.2,this.1,h4⟩
 · refine (hN.fr.block k (Nat.lt_of_lt_of_le hk h.low.size) fun e => ?_).trans (h.low.block k hk)
   rcases e with e | e | e
   · have:=h.ow k e;omega
   · omega
   · have:=e.1;omega
 · rcases hN.own b hb with h1 | h1
   · exact h.ow b h1
   · exact Nat.le_trans h.low.size h1
def valV (kind:Nat) (vs:List Value):Value:=if kind=3 then .agg ⟨vs⟩ else vs.headD .nilIface
def WkPost (B:Nat) (st:St V) (L:Lay) (bs lb:Nat) (fm:Value) (kind:Nat) (out:Out (V × List Lk)) (st':St V) (w:World):Ending→World→Prop:=fun e w' =>
 ∃ L',WNext lb B st st' L L' w w'∧match out with
  | .ok (v,lk)=>(∃ vs,e = .returned (valV kind vs)∧ValC L'.own w' kind (some v) vs)∧LKS st' L' bs lb B lk w'∧ENG st' L' none bs fm w'
  | .error c=>e = .panicked (cycP c)∧c.kind=7∧ENG st' L' (some c) bs fm w'
def WkC (W0:World) (wp:K→Prog V) (E:Eng V) (bs:Nat) (fm:Value):Prop:=∀ (B:Nat) (st:St V) (L:Lay) (w:World) (k:K) (lb:Nat) (out:Out (V × List Lk)) (st':St V),ENG st L none bs fm w→FM W0 st.files L fm w→LKS st L bs lb B [] w→W0.heap.size≤lb→W0.heap.size≤B→st.sl k≠none→(∀ b,L.own b→b < B)→run E (k.kind != 7) (wp k) [] st=some (out,st') →
 Calls Tryz.prog (workF k.kind) #[ptr bs,ptr lb,keyA k] w (WkPost B st L bs lb fm k.kind out st' w)
theorem ENGx.began {st:St V} {L:Lay} {lp:Option K} {bs:Nat} {fm q sm bg kv:Value} {arr:List K} {w w5:World} (h:ENGx st L lp bs fm q sm bg kv arr w) (k:K) {bg':Value}
 (hown:w5.ownsRow 0 99 3 bg' (st.began.length+1) (st.began.flatMap keyC ++ keyC k)) (hloc:∀ g,bg'.ownBlock=some g→bg.ownBlock=some g∨w.heap.size≤g)
 (hfar:∀ b,b < w.heap.size→bg.ownBlock≠some b→w5.heap[b]? = w.heap[b]?) (hsz:w.heap.size≤w5.heap.size) (henv:w5.os=w.os∧w5.tape=w.tape∧w5.output=w.output) :
 ENGx { st with began:=st.began ++ [k] } (L.arr bg') lp bs fm q sm bg' kv arr (w5.setCell ⟨bs,4,none⟩ bg')∧Next st { st with began:=st.began ++ [k] } L (L.arr bg') w (w5.setCell ⟨bs,4,none⟩ bg'):=by
 obtain ⟨how,hin⟩:=h.bg
 have hbgT:∀ b,bg.ownBlock=some b→∃ cur,w.heap[b]? = some (.cells cur 99):=fun b hb=>by
  obtain ⟨_,⟨e1,_⟩ | ⟨g,cap,cur,e1,_,e3,_⟩⟩:=how
  · rw [e1] at hb;simp [Value.ownBlock] at hb
  · rw [e1] at hb;simp [Value.ownBlock] at hb;subst hb;exact ⟨cur,e3⟩
 have hbsne:bg.ownBlock≠some bs:=fun e=>by
  obtain ⟨cur,hc⟩:=hbgT bs e
  rw [h.s] at hc;injection hc with hc;injection hc with _ hc;exact absurd hc (by decide)
 have hS5:w5.heap[bs]? = some (.cells #[fm, .int .i64 st.rev,q,sm,bg,kv, .int .u64 st.uses] 66):=(hfar bs (heap_lt h.s) hbsne).trans h.s
 have hgne:∀ g,bg'.ownBlock=some g→g≠bs:=fun g hg e=>by
  rcases hloc g hg with h1 | h1
  · exact hbsne (e ▸ h1)
  · have:=heap_lt h.s;omega
 have hext:∀ b,(L.arr bg').own b→L.own b∨w.heap.size≤b:=fun b hb=>by
  rcases hb with hb | hb
  · exact .inl hb
  · rcases hloc b hb with h1 | h1
    · exact .inl (hin b h1)
    · exact .inr h1
 have hfr:FR L.own w (w5.setCell ⟨bs,4,none⟩ bg'):=⟨henv.1,henv.2.1,henv.2.2,by simpa using hsz,fun b hb hn=>(heap_setCell_ne (fun e=>hn (by rw [e];exact h.bo)) _).trans (hfar b hb fun e=>hn (hin b e))⟩
 have hcs:∀ (b:Nat) (cs:Array Value) (T:TypeId),w.heap[b]? = some (.cells cs T)→T≠66→T≠99→(w5.setCell ⟨bs,4,none⟩ bg').heap[b]? = some (.cells cs T):=fun b cs T hb h1 h2=>by
  refine (heap_setCell_ne (fun e => ?_) _).trans ((hfar b (heap_lt hb) fun e => ?_).trans hb)
  · rw [e,h.s] at hb;injection hb with hb;injection hb with _ hb;exact h1 hb.symm
  · obtain ⟨cur,hc⟩:=hbgT b e
    rw [hc] at hb;injection hb with hb;injection hb with _ hb;exact h2 hb.symm
 have hmp:∀ (b:Nat) (es:Array MapEntry) (n:Nat),w.heap[b]? = some (.map es n)→(w5.setCell ⟨bs,4,none⟩ bg').heap[b]? = some (.map es n):=fun b es n hb=>by
  refine (heap_setCell_ne (fun e => ?_) _).trans ((hfar b (heap_lt hb) fun e => ?_).trans hb)
  · rw [e,h.s] at hb;injection hb with hb;cases hb
  · obtain ⟨cur,hc⟩:=hbgT b e
    rw [hc] at hb;injection hb with hb;cases hb
 have hown6:(w5.setCell ⟨bs,4,none⟩ bg').ownsRow 0 99 3 bg' (st.began.length+1) (st.began.flatMap keyC ++ keyC k):=own_far hown fun g hg=>heap_setCell_ne (hgne g hg) _
 refine ⟨⟨⟨heap_setCell_lit (i:=4) hS5 _, .inl h.bo,fun b hb => ?_,?_,fun f c hf=>⟨.inl (h.srb f c hf).1,hcs _ _ _ (h.srb f c hf).2 (by decide) (by decide)⟩,h.sri,h.qm,?_,⟨?_,fun g hg => .inr hg⟩,⟨(h.kv.keep fun b cs hb=>hcs b cs _ hb (by decide) (by decide)).1,fun g hg => .inl (h.kv.2 g hg)⟩,h.perm,h.nd,h.kl,h.ex,fun j n hj => ?_⟩,h.heap⟩,⟨fun _ h=>⟨h,rfl⟩,fun _ h=>⟨h,rfl⟩,hext,hfr⟩⟩
 · rcases hb with hb | hb
   · exact Nat.lt_of_lt_of_le (h.olt b hb) (by simpa using hsz)
   · exact (hown6.lt b hb).2
 · rcases h.sr.keep hmp with h1 | ⟨b,es,n,h1,h2,h3,h4⟩
   · exact .inl h1
   · exact .inr ⟨b,es,n,h1, .inl h2,h3,h4⟩
 · rcases h.sm.keep hmp with h1 | ⟨b,es,n,h1,h2,h3,h4⟩
   · exact .inl h1
   · exact .inr ⟨b,es,n,h1, .inl h2,h3,h4⟩
 · simpa using hown6
 · have hc:=h.cell j n hj
   obtain ⟨x,vs,a,d⟩:=hc.ex
   exact ⟨⟨x,vs,hcs _ _ _ a TB_ne.1 TB_ne.2.2.1,d.next hfr hext⟩, .inl hc.own⟩
theorem infoKeyG:(Tryz.prog.info? 99).map (fun i=>(i.zero,i.size,i.bytes))=some (some (.agg #[.int .i64 0, .string ⟨#[]⟩, .string ⟨#[]⟩]),3,40):=by kernel_rfl
theorem shareG {α β γ:Type} {F:α→β→γ→Prop} (T:α→β→γ→Prop) {G:Prop} (main:(∀ a b c,F a b c→T a b c)→G) (key:∀ a b c,F a b c→T a b c):G:=main key
theorem share4 {α β γ δ ε:Type} {F:α→β→γ→δ→ε→Prop} (T:α→β→γ→δ→ε→Prop) {G:Prop} (main:(∀ a b c d e,F a b c d e→T a b c d e)→G) (key:∀ a b c d e,F a b c d e→T a b c d e):G:=main key
theorem share7 {α β γ δ ε ζ η:Type} {F:α→β→γ→δ→ε→ζ→η→Prop} (T:α→β→γ→δ→ε→ζ→η→Prop) {G:Prop} (main:(∀ a b c d e f g,F a b c d e f g→T a b c d e f g)→G) (key:∀ a b c d e f g,F a b c d e f g→T a b c d e f g):G:=main key
theorem newLooksG (bs:Nat) (w:World):Calls Tryz.prog 36 #[.pointer (some ⟨bs,1,none⟩)] w fun e w'=>e = .returned (.pointer (some ⟨w.heap.size,0,none⟩))∧w'=w.alloc (.cells #[.pointer (some ⟨bs,1,none⟩), .slice none 0 0] 109):=by
 go_enter Tryz.func36,Tryz.ntmps36
 go_wp2
 go_ret
 exact ⟨rfl,rfl⟩
structure BG (w w5:World) (v:Value) (n g' c':Nat) (xs:List Value):Prop where
 own:w5.ownsRow 0 99 3 (.slice (some ⟨g',0,none⟩) (n+1) c') (n+1) xs
 loc:v.ownBlock=some g'∨w.heap.size≤g'
 far:∀ b,b < w.heap.size→v.ownBlock≠some b→w5.heap[b]? = w.heap[b]?
 size:w.heap.size≤w5.heap.size
 env:w5.os=w.os∧w5.tape=w.tape∧w5.output=w.output
theorem bg_of {w w5:World} {o:Obj} {v:Value} {n g' c':Nat} {xs:List Value} (hown:w5.ownsRow 0 99 3 (.slice (some ⟨g',0,none⟩) (n+1) c') (n+1) xs) (hg:(w.alloc o).drew.grownBy w5 v.ownBlock) (hat:v.ownBlock=some g'∨g'=w.heap.size+1):BG w w5 v n g' c' xs:=by
 have hz:=hg.size
 simp at hz
 refine ⟨hown,?_,fun b hb hne => ?_,by omega,hg.os,hg.tape,hg.output⟩
 · rcases hat with h | h
   · exact .inl h
   · exact .inr (by omega)
 · exact (hg.block b (by simp;omega) (fun e=>hne e.symm)).trans (Below.heap_alloc _ _ _ hb)
theorem ans_pre {st st':St V} {k:K} {v:V} (ha:answer st k v=some st'):∃ m,st.sl k=some m∧st.kept.length < BIG∧k ∉ st.kept:=by
 unfold answer at ha
 split at ha
 · cases ha
 · split at ha
   · rename_i m hm hc
     exact ⟨m,hm,hc.1,hc.2⟩
   · cases ha
theorem run_nc {E:Eng V} {st st':St V} {c:K}:∀ (p:Prog V) (lk:List Lk) (st:St V),run E true p lk st≠some (.cyc c,st')
 | ⟨.inl v,_⟩,lk,st,h=>by simp [run] at h
 | ⟨.inr (.inl _),_⟩,lk,st,h=>by simp [run] at h
 | ⟨.inr (.inr (.inl f)),c⟩,lk,st,h=>by
  simp only [run] at h
  split at h
  · exact run_nc (st:=st) _ _ _ h
  · cases h
 | ⟨.inr (.inr (.inr j)),c⟩,lk,st,h=>by
  simp only [run] at h
  split at h
  · exact run_nc (st:=st) _ _ _ h
  · rename_i c' st2 he
    unfold fetC at he
    split at he
    · cases he
    split at he
    · obtain ⟨_,_,e⟩:=Option.map_eq_some_iff.1 he
      cases e
    · split at he
      · split at he
        · obtain ⟨_,_,e⟩:=Option.map_eq_some_iff.1 he
          cases e
        · cases he
      · simp at he
      · cases he
  · cases h
theorem infoLookedG:(Tryz.prog.info? 169).map (fun i=>(i.zero,i.size,i.bytes))=some (some .nilIface,1,16):=by kernel_rfl
structure AD (w w':World) (lb B n:Nat) (tb v:Value) (xs:List Value):Prop where
 blk:∃ v',w'.heap[lb]? = some (.cells #[tb,v'] 109)∧w'.ownsRow B 169 1 v' (n+1) xs∧∀ g,v'.ownBlock=some g→v.ownBlock=some g∨w.heap.size≤g
 far:∀ b,b < w.heap.size→b≠lb→v.ownBlock≠some b→w'.heap[b]? = w.heap[b]?
 size:w.heap.size≤w'.heap.size
 env:w'.os=w.os∧w'.tape=w.tape∧w'.output=w.output
theorem addG {w:World} {lb B n:Nat} {tb:Value} {ao:Option Addr} {cp:Nat} {xs:List Value} (T:TypeId) (p:Nat) (h:w.heap[lb]? = some (.cells #[tb, .slice ao n cp] 109)) (hown:w.ownsRow B 169 1 (.slice ao n cp) n xs) (hn:n < 1099511627776) (hB:B≤w.heap.size) (hlg:(Value.slice ao n cp).ownBlock≠some lb) :
 Calls Tryz.prog 88 #[.pointer (some ⟨lb,0,none⟩), .iface T (.pointer (some ⟨p,0,none⟩))] w fun e w'=>e = .returned (.tuple #[])∧AD w w' lb B n tb (.slice ao n cp) (xs ++ [.iface T (.pointer (some ⟨p,0,none⟩))]):=by
 have hlb:=heap_lt h
 have c1:w.cell? ⟨lb,1,none⟩=some (.slice ao n cp):=heap_cell (i:=1) h
 have f1:w.frozen? ⟨lb,1,none⟩=false:=heap_frozen h
 obtain ⟨i0,hi0,hz0,hz1,hz2⟩:=info_parts infoLookedG
 have HW:=hid (fun (o:Obj)=>own_far (w':=(w.alloc o).drew) hown fun g hg=>Below.heap_alloc _ _ _ (hown.lt g hg).2)
 have HS:=hid (fun (o:Obj)=>(show (w.alloc o).drew.heap[lb]? = _ from old_heap o h))
 have HG:=hid hlg
 have HH:=hid h
 have hsc:∀ o,(w.alloc o).drew.cell? ⟨lb,1,none⟩=some (.slice ao n cp):=fun o=>heap_cell (i:=1) (HS.out o)
 have hsf:∀ o,(w.alloc o).drew.frozen? ⟨lb,1,none⟩=false:=fun o=>heap_frozen (HS.out o)
 clear h hown hlg
 go_enter Tryz.func88,Tryz.ntmps88
 go_wp2_with (at_builtin;refine wpList_append_own_at _ rfl _ _ 107 rfl B 169 i0 .nilIface 1 16 Tryz.underlying107 hi0 hz0 hz1 hz2 rfl (by decide) (.slice ao n cp) n xs (by rfl) (HW.out _) ⟨w.heap.size,0,none⟩ 1 1 [.iface T (.pointer (some ⟨p,0,none⟩))] rfl rfl ?c1 ?c2 ?c3 ?c4 ?c5 ?_)
 all_goals first
  | (intro j u hj
     match j,hj with
     | 0,hj=>simp at hj;subst hj;exact World.cell?_alloc_at _ _ _ _ (by simp)
     | (n+1),hj=>simp at hj)
  | (intro u hu;simp at hu;subst hu;rfl)
  | (unfold maxLen;omega)
  | omega
  | (simp;omega)
  | skip
 all_goals
  intro v' w5 hown' hgrow hnil hloc
  have h5:=(hgrow.block lb (by simp;omega) (fun e=>HG.out e.symm)).trans (HS.out _)
  have g5:w5.cell? ⟨lb,1,none⟩=some (.slice ao n cp):=heap_cell (i:=1) h5
  have k5:w5.frozen? ⟨lb,1,none⟩=false:=heap_frozen h5
  have hsh:∃ a n c,v' = .slice a n c:=by
   obtain ⟨_,⟨h,_⟩ | ⟨g,c,_,h,_⟩⟩:=hown'
   · exact ⟨none,0,0,h⟩
   · exact ⟨_,_,_,h⟩
  obtain ⟨a',n',c',rfl⟩:=hsh
  have hvb:∀ q,(Value.slice a' n' c').ownBlock=some q→(Value.slice ao n cp).ownBlock=some q∨w.heap.size≤q:=fun q hq=>by
   rcases hloc with h1 | h1
   · exact .inl (h1.symm.trans hq)
   · refine .inr ?_
     have h3:=Option.some.inj (h1.symm.trans hq)
     rw [←h3]
     omega
  have HR:Hid (AD w (w5.setCell ⟨lb,1,none⟩ (.slice a' n' c')) lb B n tb (.slice ao n cp) (xs ++ [.iface T (.pointer (some ⟨p,0,none⟩))])):=by
   have hz:=hgrow.size
   simp at hz
   refine ⟨⟨_,heap_setCell_lit h5 _,own_far hown' (fun g hg=>heap_setCell_ne (fun e => ?_) _),hvb⟩,fun q hq q1 q3 => ?_,by simp;omega,?_⟩
   · rcases hvb g hg with h1 | h1
     · exact HG.out (by rw [←e];exact h1)
     · omega
   · refine (heap_setCell_ne q1 _).trans ((hgrow.block q (by simp;omega) (fun e=>q3 e.symm)).trans ?_)
     exact Below.heap_alloc _ _ _ hq
   · exact ⟨hgrow.os,hgrow.tape,hgrow.output⟩
  clear h5 hown' hgrow hnil hloc hvb
  go_wp2
  go_end0
  exact ⟨rfl,HR.out⟩
theorem Row.keepT {O:Nat→Prop} {w w':World} {T:TypeId} {v:Value} {n:Nat} {xs:List Value} (h:Row O w T v n xs) (hk:∀ (b:Nat) (cs:Array Value),w.heap[b]? = some (.cells cs T)→w'.heap[b]? = some (.cells cs T)):Row O w' T v n xs:=by
 obtain ⟨ao,c,hv,hc,hg⟩:=h
 refine ⟨ao,c,hv,hc,fun hn => ?_⟩
 obtain ⟨g,cur,h1,h2,h3,h4⟩:=hg hn
 exact ⟨g,cur,h1,h2,hk g _ h3,h4⟩
theorem ValC.keepT {O:Nat→Prop} {w w':World} {kind:Nat} {x:Option V} {vs:List Value} (h:ValC O w kind x vs) (hk:∀ (b:Nat) (cs:Array Value) (T:TypeId),T≠109→T≠169→w.heap[b]? = some (.cells cs T)→w'.heap[b]? = some (.cells cs T)):ValC O w' kind x vs:=by
 match x,h with
 | some (.inl l),⟨a,v,b,c⟩=>exact ⟨a,v,b,c.keepT fun b cs=>hk b cs _ (by decide) (by decide)⟩
 | some (.inr (.inl (its,f))),⟨a,v,b,c⟩=>exact ⟨a,v,b,c.keepT fun b cs=>hk b cs _ (by decide) (by decide)⟩
 | some (.inr (.inr (.inl l))),⟨a,v,b,c⟩=>exact ⟨a,v,b,c.keepT fun b cs=>hk b cs _ (by decide) (by decide)⟩
 | some (.inr (.inr (.inr b))),h=>exact h
 | none,h=>exact h
theorem TB_ne2 {k:K}:TB k≠109∧TB k≠169:=by
 unfold TB
 repeat' split
 all_goals decide
theorem ENGx.far {st:St V} {L:Lay} {lp:Option K} {bs:Nat} {fm q sm bg kv:Value} {arr:List K} {w w':World} (h:ENGx st L lp bs fm q sm bg kv arr w) (hs:w.heap.size≤w'.heap.size)
 (hk:∀ (b:Nat) (cs:Array Value) (T:TypeId),T≠109→T≠169→w.heap[b]? = some (.cells cs T)→w'.heap[b]? = some (.cells cs T)) (hmp:∀ (b:Nat) (es:Array MapEntry) (n:Nat),w.heap[b]? = some (.map es n)→w'.heap[b]? = some (.map es n)):ENGx st L lp bs fm q sm bg kv arr w':=by
 refine ⟨⟨hk _ _ _ (by decide) (by decide) h.s,h.bo,fun b hb=>Nat.lt_of_lt_of_le (h.olt b hb) hs,h.sr.keep hmp,fun f c hf=>⟨(h.srb f c hf).1,hk _ _ _ (by decide) (by decide) (h.srb f c hf).2⟩,h.sri,h.qm,h.sm.keep hmp,h.bg.keep fun b cs=>hk b cs _ (by decide) (by decide),h.kv.keep fun b cs=>hk b cs _ (by decide) (by decide),h.perm,h.nd,h.kl,h.ex,fun j n hj => ?_⟩,h.heap⟩
 have hc:=h.cell j n hj
 obtain ⟨x,vs,a,b⟩:=hc.ex
 exact ⟨⟨x,vs,hk _ _ _ TB_ne2.1 TB_ne2.2 a,b.keepT hk⟩,hc.own⟩
theorem ADfar {w w':World} {lb B n:Nat} {tb v:Value} {xs ys:List Value} (ha:AD w w' lb B n tb v xs) (h:w.heap[lb]? = some (.cells #[tb,v] 109)) {m:Nat} (hown:w.ownsRow B 169 1 v m ys) :
 (∀ (b:Nat) (cs:Array Value) (T:TypeId),T≠109→T≠169→w.heap[b]? = some (.cells cs T)→w'.heap[b]? = some (.cells cs T))∧(∀ (b:Nat) (es:Array MapEntry) (n:Nat),w.heap[b]? = some (.map es n)→w'.heap[b]? = some (.map es n)):=by
 have hT:∀ b,v.ownBlock=some b→∃ cur,w.heap[b]? = some (.cells cur 169):=fun b hb=>by
  obtain ⟨_,⟨e1,_⟩ | ⟨g,cap,cur,e1,_,e3,_⟩⟩:=hown
  · rw [e1] at hb;simp [Value.ownBlock] at hb
  · rw [e1] at hb;simp [Value.ownBlock] at hb;subst hb;exact ⟨cur,e3⟩
 refine ⟨fun b cs T h1 h2 hb=>(ha.far b (heap_lt hb) (fun e => ?_) fun e => ?_).trans hb,fun b es n hb=>(ha.far b (heap_lt hb) (fun e => ?_) fun e => ?_).trans hb⟩
 · rw [e,h] at hb;injection hb with hb;injection hb with _ hb;exact h1 hb.symm
 · obtain ⟨cur,hc⟩:=hT b e
   rw [hc] at hb;injection hb with hb;injection hb with _ hb;exact h2 hb.symm
 · rw [e,h] at hb;injection hb with hb;cases hb
 · obtain ⟨cur,hc⟩:=hT b e
   rw [hc] at hb;injection hb with hb;cases hb
theorem own_cells {w:World} {B z n:Nat} {T:TypeId} {v:Value} {xs:List Value} (h:w.ownsRow B T z v n xs) {b:Nat} (hb:v.ownBlock=some b):∃ cur,w.heap[b]? = some (.cells cur T):=by
 obtain ⟨_,⟨e1,_⟩ | ⟨g,cap,cur,e1,_,e3,_⟩⟩:=h
 · rw [e1] at hb;simp [Value.ownBlock] at hb
 · rw [e1] at hb;simp [Value.ownBlock] at hb;subst hb;exact ⟨cur,e3⟩
theorem LKS.add {st:St V} {L:Lay} {bs lb B:Nat} {fm:Value} {lk:List Lk} {w w':World} (h:LKS st L bs lb B lk w) (hE:ENG st L none bs fm w) (hn:lk.length < BIG) {v:Value} (hb:w.heap[lb]? = some (.cells #[.pointer (some ⟨bs,1,none⟩),v] 109)) {l:Lk} (hl:match l with | .inl f=>st.src f≠none | .inr j=>st.sl j≠none)
 (ha:AD w w' lb B lk.length (.pointer (some ⟨bs,1,none⟩)) v (lk.map (lkV L) ++ [lkV L l])):LKS st L bs lb B (lk ++ [l]) w'∧ENG st L none bs fm w'∧WNext lb B st st L L w w'∧(∀ {kind:Nat} {x:Option V} {vs:List Value},ValC L.own w kind x vs→ValC L.own w' kind x vs):=by
 obtain ⟨v0,hb0,hown,hno⟩:=h.blk
 have hv:v=v0:=by
  rw [hb] at hb0;injection hb0 with hb0;injection hb0 with hb0 _
  simpa using hb0
 subst hv
 obtain ⟨hk,hmp⟩:=ADfar ha hb hown
 obtain ⟨v',h1,h2,h3⟩:=ha.blk
 obtain ⟨q,sm,bg,kv,arr,hx⟩:=hE
 refine ⟨⟨⟨v',h1,by simpa using h2,fun g hg ho => ?_⟩,h.nb,Nat.le_trans h.ge ha.size,fun x hx => ?_,by simp;omega⟩,⟨q,sm,bg,kv,arr,hx.far ha.size hk hmp⟩,⟨fun _ h=>⟨h,rfl⟩,fun _ h=>⟨h,rfl⟩,fun _ h => .inl h,⟨ha.env.1,ha.env.2.1,ha.env.2.2,ha.size,fun b hb hn=>ha.far b hb (fun e=>hn (.inr (.inl e))) fun e=>hn (.inr (.inr ⟨(hown.lt b e).1,own_cells hown e⟩))⟩⟩,fun hv=>hv.keepT hk⟩
 · rcases h3 g hg with h4 | h4
   · exact hno g h4 ho
   · have:=hx.olt g ho;omega
 · rcases List.mem_append.1 hx with h4 | h4
   · exact h.ex x h4
   · simp at h4;subst h4;exact hl
end Go.Proofs.YthibodlojlkppaaGreatDoor

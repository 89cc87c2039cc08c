/-
  workOut keeps to the model. All works; settle keeps to the model. Settle keeps to the model: whole.
-/
import Derived.Test.YthibodlojlkppaaGreatDoorB16
import Derived.Test.YthibodlojlkppaaGreatDoorB17
import Derived.Test.YthibodlojlkppaaGreatDoorB20
import Derived.Test.YthibodlojlkppaaGreatDoorB28
import Derived.Test.YthibodlojlkppaaGreatDoorB29
import Derived.Test.YthibodlojlkppaaGreatDoorB30
import Derived.Test.YthibodlojlkppaaGreatDoorB31
import Derived.Test.YthibodlojlkppaaGreatDoorB32
import Derived.Test.YthibodlojlkppaaGreatDoorB33
set_option linter.unusedVariables false
set_option linter.unusedSectionVars false
set_option linter.unusedSimpArgs false
set_option maxRecDepth 100000
set_option maxHeartbeats 40000000

namespace Go.Proofs.YthibodlojlkppaaGreatDoor
open Go.RowKit
variable [DecidableEq K] [LawfulBEq Lk]
theorem woC {W0:World} {wp:K→Prog V} {E:Eng V} {bs:Nat} {fm:Value} (hK:WkC W0 wp E bs fm):WoC W0 wp E bs fm:=by
 intro st L w k out st' h hFM hk hm
 obtain ⟨hb,hw⟩:=wo_split hm
 have HX:∀ {o:Out (V × List Lk)} {s1:St V},run E (k.kind != 7) (wp k) [] { st with began:=st.began ++ [k] }=some (o,s1)→∀ (B:Nat) (L6:Lay) (W:World) (lb:Nat),ENG { st with began:=st.began ++ [k] } L6 none bs fm W→FM W0 st.files L6 fm W→LKS { st with began:=st.began ++ [k] } L6 bs lb B [] W→W0.heap.size≤lb→W0.heap.size≤B→(∀ b,L6.own b→b < B)→Calls Tryz.prog (workF k.kind) #[ptr bs,ptr lb,keyA k] W (WkPost B { st with began:=st.began ++ [k] } L6 bs lb fm k.kind o s1 W) :=
  fun hr B L6 W lb hE hM hL h0 h1 hB=>hK B _ L6 W k lb _ _ hE hM hL h0 h1 hk hB hr
 by_cases h2:k.kind=2
 · rw [show woF k.kind=233 by simp [woF,h2]]
   rcases hw with ⟨v,lk,s1,hr,ha,rfl⟩ | ⟨c,hr,rfl,h7⟩
   · exact workOutT h2 h hFM hk hb ha (HX hr)
   · omega
 by_cases h3:k.kind=3
 · rw [show woF k.kind=238 by simp [woF,h3]]
   rcases hw with ⟨v,lk,s1,hr,ha,rfl⟩ | ⟨c,hr,rfl,h7⟩
   · exact workOutR h3 h hFM hk hb ha (HX hr)
   · omega
 by_cases h4:k.kind=4
 · rw [show woF k.kind=243 by simp [woF,h4]]
   rcases hw with ⟨v,lk,s1,hr,ha,rfl⟩ | ⟨c,hr,rfl,h7⟩
   · exact workOutX h4 h hFM hk hb ha (HX hr)
   · omega
 rw [show woF k.kind=227 by simp [woF,h2,h3,h4]]
 rcases hw with ⟨v,lk,s1,hr,ha,rfl⟩ | ⟨c,hr,rfl,h7⟩
 · exact workOutS h2 h3 h4 h hFM hk hb ha (HX hr)
 · exact workOutSc h2 h3 h4 h hFM hk hb (HX hr)
def RptC (W0:World) (E:Eng V) (bs:Nat) (fm:Value):Prop:=∀ (B lb kd:Nat) (st:St V) (L:Lay) (w:World),kd≠2→kd≠3→kd≠4→WS W0 B bs lb fm st L w st L [] w→W0.heap.size≤w.heap.size→∀ (f nm:ByteArray) (out:Out (V × List Lk)) (stE:St V),run E true (wReport f) [] st=some (out,stE) →
 Calls Tryz.prog 77 #[ptr bs,ptr lb, .agg #[.int .i64 kd, .string f, .string nm]] w (WkPost B st L bs lb fm kd out stE w)
theorem wkC {W0:World} {E:Eng V} {bs:Nat} {fm:Value} (hE:Eng0 W0 E bs fm) (hpt:PT W0.heap.size W0) (heo:EOk W0) (hR:RptC W0 E bs fm):WkC W0 wp E bs fm:=by
 intro B st L w k lb out st' hG hM hK h1 h2 hk hB hr
 have hW:=WS.start hG hM hK h1 h2
 have h00:W0.heap.size≤w.heap.size:=hM.low.size
 obtain ⟨kd,f,nm⟩:=k
 have hA:keyA ⟨kd,f,nm⟩ = .agg #[.int .i64 kd, .string f, .string nm]:=rfl
 rw [hA]
 unfold wp at hr
 simp only at hr ⊢
 unfold workF
 split
 · rename_i h;subst h
   exact workKnownC hW hr
 split
 · rename_i h;subst h
   exact workTokensC hW hr
 split
 · rename_i h;subst h
   exact workTreeC hE hW h00 hr
 split
 · rename_i h;subst h
   exact workExportsC hE hW h00 hr
 split
 · rename_i h;subst h
   exact workFindC hE hW h00 hr
 split
 · rename_i h;subst h
   exact workTypeC hE hW h00 hr
 split
 · rename_i h;subst h
   exact workValueC hE hpt heo hW h00 hr
 · rename_i e1 e2 e3 e4 e5 e6 e7
   rw [if_neg e1,if_neg e2,if_neg e3,if_neg e4,if_neg e5,if_neg e6,if_neg e7] at hr
   rw [show (kd != 7)=true by simpa using e7] at hr
   exact hR B lb kd st L w e2 e3 e4 hW h00 f nm out st' hr
theorem engC {W0:World} {bs:Nat} {fm:Value} (hpt:PT W0.heap.size W0) (heo:EOk W0) (hR:∀ E,Eng0 W0 E bs fm→RptC W0 E bs fm):∀ n,SetC W0 (engM wp (.s cyc_) n) bs fm
 | 0=>fun st L w k out st' _ _ _ h=>by cases h
 | n+1=>settleC (engM_act n) (woC (wkC ⟨engC hpt heo hR n,engM_act n⟩ hpt heo (hR _ ⟨engC hpt heo hR n,engM_act n⟩)))
theorem engAll {W0:World} {bs:Nat} {fm:Value} (hpt:PT W0.heap.size W0) (heo:EOk W0) (n:Nat):SetC W0 (engM wp (.s cyc_) n) bs fm :=
 engC hpt heo (fun _ hE _ _ _ _ _ _ k2 k3 k4 hW h00 _ _ _ _ hr=>workReportC hE hpt hW h00 k2 k3 k4 hr) n
end Go.Proofs.YthibodlojlkppaaGreatDoor

/-
  What the texts tell: the values. The program's reckon: what an expr comes to, its names' worths given. The library's text builder at this program: copyCheck, WriteByte, WriteString.
-/
import Derived.Test.YthibodlojlkppaaGreatDoorB01
import Derived.Test.YthibodlojlkppaaGreatDoorB08
import Derived.Test.YthibodlojlkppaaGreatDoorB21
import Derived.Test.YthibodlojlkppaaGreatDoorB23
import Derived.Test.YthibodlojlkppaaGreatDoorShelf
import Derived.Lib.Builder
import Derived.Lib.AppendStr
import Derived.Lib.BufferWrite
set_option linter.unusedVariables false
set_option linter.unusedSectionVars false
set_option linter.unusedSimpArgs false
set_option maxRecDepth 100000
set_option maxHeartbeats 40000000

namespace Go.Proofs.YthibodlojlkppaaGreatDoor
open Go.RowKit
variable [DecidableEq K] [LawfulBEq Lk]
section
variable {F:Txt}
theorem grav_nob:grav nob=0:=by
 unfold grav
 rw [eqB_no (by decide),eqB_no (by decide),eqB_no (by decide)]
 rfl
theorem grav_cyc:grav cyc_=3:=by
 unfold grav
 rw [eqB_is.2 rfl]
 rfl
theorem grav_le (v:ByteArray):grav v≤3:=by
 unfold grav
 repeat' split
 all_goals omega
theorem grav_three {v:ByteArray} (h:grav v=3):v=cyc_:=by
 unfold grav at h
 split at h
 · exact eqB_is.1 (by assumption)
 · split at h
   · omega
   · split at h <;> omega
theorem grav_pos {v:ByteArray} (h:0 < grav v):valOk v=true∧v≠nob:=by
 unfold grav at h
 unfold valOk
 split at h
 · rename_i h1;exact ⟨by simp [h1],fun e=>by rw [eqB_is.1 h1] at e;exact absurd e (by decide)⟩
 · split at h
   · rename_i h1;exact ⟨by simp [h1],fun e=>by rw [eqB_is.1 h1] at e;exact absurd e (by decide)⟩
   · split at h
     · rename_i h1;exact ⟨by simp [h1],fun e=>by rw [eqB_is.1 h1] at e;exact absurd e (by decide)⟩
     · omega
theorem worse_grav (f v:ByteArray):grav f≤grav (worse f v)∧grav v≤grav (worse f v):=by
 unfold worse
 split <;> omega
def faultOk (f:ByteArray):Prop:=f=nob∨0 < grav f
theorem worse_ok {f v:ByteArray} (h:faultOk f):faultOk (worse f v):=by
 unfold worse
 split
 · exact .inr (by omega)
 · exact h
theorem values_grav (v:ByteArray→ByteArray→ByteArray) (f:ByteArray):∀ (ns:List ByteArray) (fault:ByteArray) (M:ByteArray→Int),faultOk fault→faultOk (valuesF F v f ns fault M).1∧grav fault≤grav (valuesF F v f ns fault M).1∧∀ n∈ns,grav (v (findF F f n) n)≤grav (valuesF F v f ns fault M).1
 | [],fault,M,h=>⟨h,Nat.le_refl _,fun _ x=>by simp at x⟩
 | n :: ns,fault,M,h=>by
  obtain ⟨a,b,c⟩:=values_grav v f ns (worse fault (v (findF F f n) n)) (fun x=>if x=n then readW (v (findF F f n) n) else M x) (worse_ok h)
  have:=worse_grav fault (v (findF F f n) n)
  unfold valuesF
  refine ⟨a,by omega,fun m hm => ?_⟩
  rcases List.mem_cons.1 hm with rfl | hm
  · omega
  · exact c m hm
theorem values_M (v:ByteArray→ByteArray→ByteArray) (f:ByteArray):∀ (ns:List ByteArray) (fault:ByteArray) (M:ByteArray→Int),(∀ n,0≤M n∧M n≤999999999)→∀ n,0≤(valuesF F v f ns fault M).2 n∧(valuesF F v f ns fault M).2 n≤999999999
 | [],fault,M,h=>h
 | n :: ns,fault,M,h=>by
  unfold valuesF
  exact values_M v f ns _ _ fun m=>by
   show 0≤(if m=n then readW (v (findF F f n) n) else M m)∧(if m=n then readW (v (findF F f n) n) else M m)≤999999999
   split
   · exact readW_ok _
   · exact h m
theorem values_congr {v v':ByteArray→ByteArray→ByteArray} (f:ByteArray):∀ (ns:List ByteArray) (fault:ByteArray) (M:ByteArray→Int),(∀ n∈ns,v (findF F f n) n=v' (findF F f n) n)→valuesF F v f ns fault M=valuesF F v' f ns fault M
 | [],fault,M,_=>rfl
 | n :: ns,fault,M,h=>by
  unfold valuesF
  rw [h n (by simp)]
  exact values_congr f ns _ _ fun m hm=>h m (List.mem_cons_of_mem _ hm)
theorem value_congr {v v':ByteArray→ByteArray→ByteArray} {f nm:ByteArray} (h:∀ e,exprF F f nm=some e→∀ n∈namesX e [],v (findF F f n) n=v' (findF F f n) n):valueF F v f nm=valueF F v' f nm:=by
 unfold valueF
 cases he:exprF F f nm with
 | none=>rfl
 | some e=>simp only;rw [values_congr f _ _ _ (h e he)]
theorem typeF_range (f nm:ByteArray):typeF F f nm=none_∨typeF F f nm=bad_∨typeF F f nm=int_∨typeF F f nm=bool_:=by
 unfold typeF
 split
 · rename_i i hn
   obtain ⟨h1,h2,_⟩:=mem_named (nm:=nm) (its:=(treeF F f).1) (i:=i) (by rw [hn];simp)
   obtain ⟨_,ht,_⟩:=((treeX_ok _).1 i h1).let' h2
   split
   · exact .inr (.inl rfl)
   · split
     · rcases ht with h | h
       · exact .inr (.inr (.inl h))
       · exact .inr (.inr (.inr h))
     · exact .inr (.inl rfl)
 · exact .inl rfl
theorem expr_none {f nm:ByteArray} (h:exprF F f nm=none):typeF F f nm=none_∨typeF F f nm=bad_:=by
 cases hb:(eqB (typeF F f nm) none_ || eqB (typeF F f nm) bad_) with
 | true =>
  rcases Bool.or_eq_true_iff.1 hb with h1 | h1
  · exact .inl (eqB_is.1 h1)
  · exact .inr (eqB_is.1 h1)
 | false =>
  obtain ⟨i,e,_,_,h3⟩:=type_named hb
  rw [h] at h3;cases h3
theorem expr_nums {f nm:ByteArray} {e:Ex} (h:exprF F f nm=some e):numsOk e∧∃ i,namedX nm (treeF F f).1 = [i]∧i.ex=some e∧(eqB (typeF F f nm) none_ || eqB (typeF F f nm) bad_)=false:=by
 cases hb:(eqB (typeF F f nm) none_ || eqB (typeF F f nm) bad_) with
 | true=>unfold exprF at h;rw [hb] at h;simp at h
 | false =>
  obtain ⟨i,e',h1,h2,h3⟩:=type_named hb
  rw [h] at h3;cases h3
  exact ⟨treeX_nums i (mem_named (nm:=nm) (by rw [show (treeX (toksF F f)).1=(treeF F f).1 from rfl,h1];simp)).1 _ h2,i,h1,h2,rfl⟩
theorem value_ok (v:ByteArray→ByteArray→ByteArray) (f nm:ByteArray):valOk (valueF F v f nm)=true:=by
 unfold valueF
 cases he:exprF F f nm with
 | none =>
  simp only
  rcases expr_none he with h | h
  · rw [h];unfold valOk;rw [show eqB none_ none_=true from eqB_is.2 rfl];simp
  · rw [h];unfold valOk;rw [show eqB bad_ bad_=true from eqB_is.2 rfl];simp
 | some e =>
  simp only
  obtain ⟨hn,_⟩:=expr_nums he
  obtain ⟨a,_,_⟩:=values_grav (F:=F) v f (namesX e []) nob (fun _=>0) (.inl rfl)
  have hM:=values_M (F:=F) v f (namesX e []) nob (fun _=>0) fun _=>by omega
  generalize valuesF F v f (namesX e []) nob (fun _=>0)=p at *
  unfold valueEnd
  rcases a with h | h
  · rw [h,show eqB nob nob=true from eqB_is.2 rfl,if_pos rfl]
    cases hr:reckX p.2 e with
    | none=>simp only;unfold valOk;rw [show eqB over_ over_=true from eqB_is.2 rfl];simp
    | some n =>
     have:=reckX_ok hM e hn n hr
     exact valOk_write this.1 this.2
  · obtain ⟨h1,h2⟩:=grav_pos h
    rw [eqB_no h2]
    simp only [Bool.false_eq_true,if_false]
    exact h1
theorem value_cyc {v:ByteArray→ByteArray→ByteArray} {f nm:ByteArray} {e:Ex} (he:exprF F f nm=some e) {n:ByteArray} (hn:n∈namesX e []) (hc:v (findF F f n) n=cyc_):valueF F v f nm=cyc_:=by
 unfold valueF
 rw [he]
 simp only
 obtain ⟨_,_,c⟩:=values_grav (F:=F) v f (namesX e []) nob (fun _=>0) (.inl rfl)
 have h1:=c n hn
 rw [hc,grav_cyc] at h1
 have h2:=grav_le (valuesF F v f (namesX e []) nob fun _=>0).1
 have h3:=grav_three (v:=(valuesF F v f (namesX e []) nob fun _=>0).1) (by omega)
 unfold valueEnd
 rw [h3,eqB_no (by decide)]
 rfl
def valD (F:Txt):Nat→ByteArray→ByteArray→Option ByteArray
 | 0,_,_=>none
 | d+1,f,nm =>
  if ((exprF F f nm).map fun e=>(namesX e []).all fun n=>(valD F d (findF F f n) n).isSome).getD true then some (valueF F (fun g n=>(valD F d g n).getD nob) f nm) else none
theorem valD_needs {d:Nat} {f nm x:ByteArray} (h:valD F (d+1) f nm=some x):(∀ e,exprF F f nm=some e→∀ n∈namesX e [],∃ y,valD F d (findF F f n) n=some y)∧x=valueF F (fun g n=>(valD F d g n).getD nob) f nm:=by
 unfold valD at h
 split at h
 · rename_i hc
   refine ⟨fun e he n hn => ?_,by cases h;rfl⟩
   rw [he] at hc
   simp only [Option.map_some,Option.getD_some,List.all_eq_true] at hc
   exact Option.isSome_iff_exists.1 (hc n hn)
 · cases h
theorem valD_of {d:Nat} {f nm:ByteArray} (h:∀ e,exprF F f nm=some e→∀ n∈namesX e [],∃ y,valD F d (findF F f n) n=some y):valD F (d+1) f nm=some (valueF F (fun g n=>(valD F d g n).getD nob) f nm):=by
 have hc:((exprF F f nm).map fun e=>(namesX e []).all fun n=>(valD F d (findF F f n) n).isSome).getD true=true:=by
  cases he:exprF F f nm with
  | none=>rfl
  | some e =>
   simp only [Option.map_some,Option.getD_some,List.all_eq_true]
   intro n hn
   obtain ⟨y,hy⟩:=h e he n hn
   rw [hy];rfl
 rw [valD,if_pos hc]
theorem valD_up:∀ (d:Nat) (f nm x:ByteArray),valD F d f nm=some x→valD F (d+1) f nm=some x
 | 0,f,nm,x,h=>by simp [valD] at h
 | d+1,f,nm,x,h=>by
  obtain ⟨h1,h2⟩:=valD_needs h
  have h3:∀ e,exprF F f nm=some e→∀ n∈namesX e [],∃ y,valD F (d+1) (findF F f n) n=some y∧valD F d (findF F f n) n=some y:=fun e he n hn=>by
   obtain ⟨y,hy⟩:=h1 e he n hn
   exact ⟨y,valD_up d _ _ _ hy,hy⟩
  rw [valD_of fun e he n hn=>let ⟨y,a,_⟩:=h3 e he n hn;⟨y,a⟩,h2]
  congr 1
  refine value_congr fun e he n hn => ?_
  obtain ⟨y,a,b⟩:=h3 e he n hn
  simp only [a,b]
theorem valD_le {d d':Nat} (h:d≤d') {f nm x:ByteArray} (hx:valD F d f nm=some x):valD F d' f nm=some x:=by
 induction h with
 | refl=>exact hx
 | step _ ih=>exact valD_up _ _ _ _ ih
structure ValsOf (F:Txt) (v:ByteArray→ByteArray→ByteArray):Prop where
 sm:∀ d f nm x,valD F d f nm=some x→v f nm=x
 nn:∀ f nm,(∀ d,valD F d f nm=none)→v f nm=cyc_
theorem vals_exist (F:Txt):∃ v,ValsOf F v:=by
 have key:∀ f nm,∃ y,(∀ d x,valD F d f nm=some x→y=x)∧((∀ d,valD F d f nm=none)→y=cyc_):=fun f nm=>by
  by_cases h:∃ d x,valD F d f nm=some x
  · obtain ⟨d,x,hx⟩:=h
    refine ⟨x,fun d' x' hx' => ?_,fun hn=>by rw [hn d] at hx;cases hx⟩
    have e1:=valD_le (Nat.le_max_left d d') hx
    have e2:=valD_le (Nat.le_max_right d d') hx'
    rw [e1] at e2
    cases e2
    rfl
  · exact ⟨cyc_,fun d x hx=>absurd ⟨d,x,hx⟩ h,fun _=>rfl⟩
 exact ⟨fun f nm=>Classical.choose (key f nm),fun d f nm x h=>(Classical.choose_spec (key f nm)).1 d x h,fun f nm h=>(Classical.choose_spec (key f nm)).2 h⟩
theorem list_max {α:Type} {P:Nat→α→Prop} (hup:∀ d d' a,d≤d'→P d a→P d' a):∀ (l:List α),(∀ a∈l,∃ d,P d a)→∃ d,∀ a∈l,P d a
 | [],_=>⟨0,fun _ x=>by simp at x⟩
 | a :: l,h=>by
  obtain ⟨d1,h1⟩:=h a (by simp)
  obtain ⟨d2,h2⟩:=list_max hup l fun b hb=>h b (List.mem_cons_of_mem _ hb)
  refine ⟨max d1 d2,fun b hb => ?_⟩
  rcases List.mem_cons.1 hb with rfl | hb
  · exact hup _ _ _ (Nat.le_max_left _ _) h1
  · exact hup _ _ _ (Nat.le_max_right _ _) (h2 b hb)
theorem ValsOf.eq {v:ByteArray→ByteArray→ByteArray} (h:ValsOf F v) (f nm:ByteArray):v f nm=valueF F v f nm:=by
 by_cases hall:∀ e,exprF F f nm=some e→∀ n∈namesX e [],∃ d y,valD F d (findF F f n) n=some y
 · have hmax:∃ d,∀ e,exprF F f nm=some e→∀ n∈namesX e [],∃ y,valD F d (findF F f n) n=some y:=by
    cases he:exprF F f nm with
    | none=>exact ⟨0,fun e x=>by cases x⟩
    | some e =>
     obtain ⟨d,hd⟩:=list_max (P:=fun d n => ∃ y,valD F d (findF F f n) n=some y) (fun d d' a hd ⟨y,hy⟩=>⟨y,valD_le hd hy⟩) (namesX e []) fun n hn=>hall e he n hn
     exact ⟨d,fun e' x=>by cases x;exact hd⟩
   obtain ⟨d,hd⟩:=hmax
   have h1:=valD_of hd
   rw [h.sm _ _ _ _ h1]
   refine value_congr fun e he n hn => ?_
   obtain ⟨y,hy⟩:=hd e he n hn
   rw [h.sm _ _ _ _ hy,hy];rfl
 · obtain ⟨e,h1⟩:=Classical.not_forall.1 hall
   obtain ⟨he,h1⟩:=Classical.not_imp.1 h1
   obtain ⟨n,h1⟩:=Classical.not_forall.1 h1
   obtain ⟨hn,h1⟩:=Classical.not_imp.1 h1
   have hnone:∀ g m,(¬ ∃ d y,valD F d g m=some y)→v g m=cyc_:=fun g m hx=>h.nn g m fun d=>by
    cases hd:valD F d g m with
    | none=>rfl
    | some y=>exact absurd ⟨d,y,hd⟩ hx
   rw [value_cyc he hn (hnone _ _ h1)]
   refine hnone f nm fun ⟨d,y,hd⟩ => ?_
   cases d with
   | zero=>simp [valD] at hd
   | succ d =>
    obtain ⟨y2,hy2⟩:=(valD_needs hd).1 e he n hn
    exact h1 ⟨d,y2,hy2⟩
end
structure MW (mv:Value) (M:ByteArray→Int) (w:World):Prop where
 look:∀ W,Below w.heap.size w W→∀ nm,∃ ty,(Instr.lookup 195 mv (.string nm) false).run Tryz.prog W = .ok (.agg #[.string ty, .int .i64 (M nm)]) W
 lo:∀ nm,0≤M nm
 hi:∀ nm,M nm≤999999999
theorem MW.below {mv:Value} {M:ByteArray→Int} {w w':World} (h:MW mv M w) (hb:Below w.heap.size w w'):MW mv M w':=⟨fun W hW=>h.look W (below_seq hb hW),h.lo,h.hi⟩
def okB (r:Option Int):Prop:=∀ a,r=some a→0≤a∧a≤999999999
def Reckons (x:Value) (r:(ByteArray→Int)→Option Int):Prop :=
 (∃ (T:TypeId) (v u:Value) (F:FuncId),x = .iface T v∧(∀ w,(method 414 T v "almanac/lang.reckon").run Tryz.prog w = .ok (F,u) w)∧(∀ args w,(callFunc F args).run Tryz.prog w = .ok (.enter F args) w)∧Tryz.prog.inits.idxOf? F=none ∧
   ∀ (mv:Value) (M:ByteArray→Int) (w:World),MW mv M w →
    Calls Tryz.prog F #[u,mv] w fun e w'=>e = .returned (.tuple #[.int .i64 ((r M).getD 0), .bool (r M).isSome])∧Below w.heap.size w w')∧∀ M,(∀ nm,0≤M nm)→(∀ nm,M nm≤999999999)→okB (r M)
theorem rmNumber (n:Int) (w:World):(method 414 197 (.int .i64 n) "almanac/lang.reckon").run Tryz.prog w = .ok (245,(.int .i64 n)) w:=by kernel_rfl
theorem reNumber (args:Array Value) (w:World):(callFunc 245 args).run Tryz.prog w = .ok (.enter 245 args) w:=by kernel_rfl
theorem rmTruth (n:Bool) (w:World):(method 414 290 (.bool n) "almanac/lang.reckon").run Tryz.prog w = .ok (258,(.bool n)) w:=by kernel_rfl
theorem reTruth (args:Array Value) (w:World):(callFunc 258 args).run Tryz.prog w = .ok (.enter 258 args) w:=by kernel_rfl
theorem rmName (n:ByteArray) (w:World):(method 414 291 (.string n) "almanac/lang.reckon").run Tryz.prog w = .ok (262,(.string n)) w:=by kernel_rfl
theorem reName (args:Array Value) (w:World):(callFunc 262 args).run Tryz.prog w = .ok (.enter 262 args) w:=by kernel_rfl
theorem rmPair (n:Value) (w:World):(method 414 271 n "almanac/lang.reckon").run Tryz.prog w = .ok (251,n) w:=by kernel_rfl
theorem rePair (args:Array Value) (w:World):(callFunc 251 args).run Tryz.prog w = .ok (.enter 251 args) w:=by kernel_rfl
theorem rmChoice (n:Value) (w:World):(method 414 293 n "almanac/lang.reckon").run Tryz.prog w = .ok (266,n) w:=by kernel_rfl
theorem reChoice (args:Array Value) (w:World):(callFunc 266 args).run Tryz.prog w = .ok (.enter 266 args) w:=by kernel_rfl
theorem reckons_number (n:Int) (h0:0≤n) (h1:n≤999999999):Reckons (.iface 197 (.int .i64 n)) (fun _=>some n):=by
 refine ⟨⟨_,_,_,_,rfl,rmNumber _,reNumber,by kernel_rfl,fun mv M w hM => ?_⟩,fun M _ _ a ha=>by injection ha with ha;subst ha;exact ⟨h0,h1⟩⟩
 go_enter Tryz.func245,Tryz.ntmps245
 go_wp2
 go_ret2
 exact ⟨rfl,Below.refl _ _⟩
theorem worthOf_any (b:Bool) (w:World):Calls Tryz.prog 131 #[.bool b] w fun e w'=>e = .returned (.int .i64 (if b then 1 else 0))∧w'=w:=by
 cases b
 all_goals
  go_enter Tryz.func131,Tryz.ntmps131
  go_wp2
  go_ret
  exact ⟨rfl,rfl⟩
theorem bounded_any (n:Int) (w:World):Calls Tryz.prog 254 #[.int .i64 n] w fun e w'=>e = .returned (.tuple #[.int .i64 ((bndI n).getD 0), .bool (bndI n).isSome])∧w'=w:=by
 by_cases h:999999999 < n
 · have HB:=hid (show bndI n=none from if_pos h)
   go_enter Tryz.func254,Tryz.ntmps254
   go_wp2
   go_ret2
   rw [HB.out]
   exact ⟨rfl,rfl⟩
 · have HB:=hid (show bndI n=some n from if_neg h)
   go_enter Tryz.func254,Tryz.ntmps254
   go_wp2
   go_ret2
   rw [HB.out]
   exact ⟨rfl,rfl⟩
theorem fieldWorth (a:ByteArray) (b:Int) (w:World):(Instr.field 199 (.agg #[.string a, .int .i64 b]) 1).run Tryz.prog w = .ok (.int .i64 b) w:=by kernel_rfl
theorem reckons_truth (b:Bool):Reckons (.iface 290 (.bool b)) (fun _=>some (worthB b)):=by
 refine ⟨⟨_,_,_,_,rfl,rmTruth _,reTruth,by kernel_rfl,fun mv M w hM => ?_⟩,fun M _ _ a ha=>by injection ha with ha;subst ha;cases b <;> decide⟩
 go_enter Tryz.func258,Tryz.ntmps258
 go_wp2_with fail
 refine (worthOf_any b w).mono ?_
 rw [show (if b then (1:Int) else 0)=worthB b from rfl]
 rintro e w1 ⟨rfl,rfl⟩
 go_wp2
 go_ret2
 exact ⟨rfl,Below.refl _ _⟩
theorem reckons_name (t:ByteArray):Reckons (.iface 291 (.string t)) (fun M=>some (M t)):=by
 refine ⟨⟨_,_,_,_,rfl,rmName _,reName,by kernel_rfl,fun mv M w hM => ?_⟩,fun M h0 h1 a ha=>by injection ha with ha;subst ha;exact ⟨h0 t,h1 t⟩⟩
 obtain ⟨ty,h0⟩:=hM.look w (Below.refl _ _) t
 have hfd:=fieldWorth ty (M t)
 go_enter Tryz.func262,Tryz.ntmps262
 go_wp2
 go_ret2
 exact ⟨rfl,Below.refl _ _⟩
def pairR (op:List UInt8) (l r:(ByteArray→Int)→Option Int):(ByteArray→Int)→Option Int:=fun M =>
 match l M,r M with
 | some a,some b=>if op = [43] then bndI (a+b) else if op = [42] then bndI (a * b) else some (worthB (a == b))
 | _,_=>none
theorem pairR_none1 {op:List UInt8} {l r:(ByteArray→Int)→Option Int} {M:ByteArray→Int} (h:l M=none):pairR op l r M=none:=by simp [pairR,h]
theorem pairR_none2 {op:List UInt8} {l r:(ByteArray→Int)→Option Int} {M:ByteArray→Int} {a:Int} (h:l M=some a) (h':r M=none):pairR op l r M=none:=by simp [pairR,h,h']
theorem bndI_b {n:Int} (h0:0≤n):okB (bndI n):=by
 intro a ha
 unfold bndI at ha
 split at ha
 · simp at ha
 · injection ha with ha;omega
theorem worthB_b (b:Bool):0≤worthB b∧worthB b≤999999999:=by cases b <;> decide
theorem pairR_ok {op:List UInt8} {l r:(ByteArray→Int)→Option Int} {M:ByteArray→Int} (h1:okB (l M)) (h2:okB (r M)):okB (pairR op l r M):=by
 cases hl:l M with
 | none=>rw [pairR_none1 hl];intro a ha;simp at ha
 | some a =>
  cases hr:r M with
  | none=>rw [pairR_none2 hl hr];intro a ha;simp at ha
  | some b =>
   have ha:=h1 a hl
   have hb:=h2 b hr
   simp only [pairR,hl,hr]
   split
   · exact bndI_b (by omega)
   · split
     · exact bndI_b (Int.mul_nonneg ha.1 hb.1)
     · intro c hc;injection hc with hc;subst hc;exact worthB_b _
theorem reckons_pair {op:List UInt8} (hop:op = [43]∨op = [42]∨op = [61,61]) {l r:Value} {f g:(ByteArray→Int)→Option Int} (hl:Reckons l f) (hr:Reckons r g):Reckons (mkPair ⟨⟨op⟩⟩ l r) (pairR op f g):=by
 obtain ⟨⟨T1,v1,u1,F1,rfl,m1,e1,_,c1⟩,b1⟩:=hl
 obtain ⟨⟨T2,v2,u2,F2,rfl,m2,e2,_,c2⟩,b2⟩:=hr
 refine ⟨⟨_,_,_,_,rfl,rmPair _,rePair,by kernel_rfl,fun mv M w hM => ?_⟩,fun M h0 h1=>pairR_ok (b1 M h0 h1) (b2 M h0 h1)⟩
 have hbl:=below_new w (.cells #[.string ⟨⟨op⟩⟩, .iface T1 v1, .iface T2 v2] 271)
 have HBL:=hid hbl
 have hN:=new_heap w (.cells #[.string ⟨⟨op⟩⟩, .iface T1 v1, .iface T2 v2] 271)
 have HN:=hid hN
 have HC1:=hid (c1 mv M _ (hM.below hbl))
 have HC2:=hid (fun w' hb=>c2 mv M w' (hM.below (below_seq hbl hb)))
 have HB1:=hid (b1 M hM.lo hM.hi)
 have HB2:=hid (b2 M hM.lo hM.hi)
 have k0:=heap_cell (i:=0) hN
 have k1:=heap_cell (i:=1) hN
 have k2:=heap_cell (i:=2) hN
 clear c1 c2 b1 b2 hM hbl hN
 go_enter Tryz.func251,Tryz.ntmps251
 go_wp2_with fail
 refine HC1.out.mono ?_
 rintro e w1 ⟨rfl,hb1⟩
 have hN1:=below_heap hb1 (heap_lt HN.out) HN.out
 have j0:=heap_cell (i:=0) hN1
 have j1:=heap_cell (i:=1) hN1
 have j2:=heap_cell (i:=2) hN1
 have HN1:=hid hN1
 have HC2':=hid (HC2.out w1 hb1)
 have HBW1:=hid (below_seq HBL.out hb1)
 clear hN1 hb1 k0 k1 k2 HC1 HC2
 cases hf:f M with
 | none =>
  have HF:=hid hf
  have HP:=hid (pairR_none1 (op:=op) (r:=g) hf)
  clear hf
  simp only [Option.getD_none,Option.isSome_none]
  go_wp2
  go_ret2
  rw [HP.out]
  exact ⟨rfl,HBW1.out⟩
 | some a =>
  have HF:=hid hf
  clear hf
  simp only [Option.getD_some,Option.isSome_some]
  go_wp2_with fail
  refine HC2'.out.mono ?_
  rintro e w2 ⟨rfl,hb2⟩
  have hN2:=below_heap hb2 (heap_lt HN1.out) HN1.out
  have i0:=heap_cell (i:=0) hN2
  have HBW2:=hid (below_seq HBW1.out hb2)
  clear hN2 hb2 j0 j1 j2 HC2'
  cases hg:g M with
  | none =>
   have HP:=hid (pairR_none2 (op:=op) HF.out hg)
   clear hg
   simp only [Option.getD_none,Option.isSome_none]
   go_wp2
   go_ret2
   rw [HP.out]
   exact ⟨rfl,HBW2.out⟩
  | some b =>
   have ha:=HB1.out a HF.out
   have hb:=HB2.out b hg
   have HR:=hid (show pairR op f g M=(if op = [43] then bndI (a+b) else if op = [42] then bndI (a * b) else some (worthB (a == b))) by simp only [pairR,HF.out,hg])
   clear hg
   simp only [Option.getD_some,Option.isSome_some]
   rcases hop with rfl | rfl | rfl
   · have hs0:0≤a+b:=by omega
     have hs1:a+b≤1999999998:=by omega
     have HR2:=hid (HR.out.trans (if_pos rfl))
     go_wp2_with fail
     refine (bounded_any (a+b) w2).mono ?_
     rintro e w3 ⟨rfl,rfl⟩
     go_wp2
     go_ret2
     rw [HR2.out]
     exact ⟨rfl,HBW2.out⟩
   · have hs0:0≤a * b:=Int.mul_nonneg ha.1 hb.1
     have hs1:a * b≤999999999 * 999999999:=Int.mul_le_mul ha.2 hb.2 hb.1 (by decide)
     have HR2:=hid (HR.out.trans ((if_neg (by decide)).trans (if_pos rfl)))
     go_wp2_with fail
     refine (bounded_any (a * b) w2).mono ?_
     rintro e w3 ⟨rfl,rfl⟩
     go_wp2
     go_ret2
     rw [HR2.out]
     exact ⟨rfl,HBW2.out⟩
   · have HR2:=hid (HR.out.trans ((if_neg (by decide)).trans (if_neg (by decide))))
     go_wp2_with fail
     refine (worthOf_any (a == b) w2).mono ?_
     rw [show (if (a == b)=true then (1:Int) else 0)=worthB (a == b) from rfl]
     rintro e w3 ⟨rfl,rfl⟩
     go_wp2
     go_ret2
     rw [HR2.out]
     exact ⟨rfl,HBW2.out⟩
def choiceV:Option Int→Option Int→Option Int→Option Int
 | some b,some d,some a=>some (bif a == 1 then b else d)
 | _,_,_=>none
def choiceR (c y n:(ByteArray→Int)→Option Int):(ByteArray→Int)→Option Int:=fun M=>choiceV (y M) (n M) (c M)
theorem choiceV_ok {c y n:Option Int} (h1:okB y) (h2:okB n):okB (choiceV y n c):=by
 intro a ha
 match y,n,c,ha with
 | some b,some d,some e,ha =>
  simp only [choiceV] at ha
  injection ha with ha
  subst ha
  cases (e == 1)
  · exact h2 d rfl
  · exact h1 b rfl
theorem reckons_choice {c y n:Value} {f g k:(ByteArray→Int)→Option Int} (hc:Reckons c f) (hy:Reckons y g) (hn:Reckons n k):Reckons (mkChoice c y n) (choiceR f g k):=by
 obtain ⟨⟨T1,v1,u1,F1,rfl,m1,e1,_,c1⟩,b1⟩:=hc
 obtain ⟨⟨T2,v2,u2,F2,rfl,m2,e2,_,c2⟩,b2⟩:=hy
 obtain ⟨⟨T3,v3,u3,F3,rfl,m3,e3,_,c3⟩,b3⟩:=hn
 refine ⟨⟨_,_,_,_,rfl,rmChoice _,reChoice,by kernel_rfl,fun mv M w hM => ?_⟩,fun M h0 h1=>choiceV_ok (b2 M h0 h1) (b3 M h0 h1)⟩
 have hbl:=below_new w (.cells #[.iface T1 v1, .iface T2 v2, .iface T3 v3] 293)
 have HBL:=hid hbl
 have hN:=new_heap w (.cells #[.iface T1 v1, .iface T2 v2, .iface T3 v3] 293)
 have HN:=hid hN
 have HC2:=hid (c2 mv M _ (hM.below hbl))
 have HC3:=hid (fun w' hb=>c3 mv M w' (hM.below (below_seq hbl hb)))
 have HC1:=hid (fun w' hb=>c1 mv M w' (hM.below (below_seq hbl hb)))
 have k0:=heap_cell (i:=0) hN
 have k1:=heap_cell (i:=1) hN
 have k2:=heap_cell (i:=2) hN
 clear c1 c2 c3 b1 b2 b3 hM hbl hN
 go_enter Tryz.func266,Tryz.ntmps266
 go_wp2_with fail
 refine HC2.out.mono ?_
 rintro e w1 ⟨rfl,hb1⟩
 have hN1:=below_heap hb1 (heap_lt HN.out) HN.out
 have j0:=heap_cell (i:=0) hN1
 have j1:=heap_cell (i:=1) hN1
 have j2:=heap_cell (i:=2) hN1
 have HN1:=hid hN1
 have HB1:=hid hb1
 clear hN1 hb1 k0 k1 k2 HC2
 obtain ⟨gz,hgz⟩:∃ gz,gz=g M:=⟨_,rfl⟩
 rw [←hgz]
 have HGZ:=hid hgz
 clear hgz
 go_wp2_with fail
 refine (HC3.out w1 HB1.out).mono ?_
 rintro e w2 ⟨rfl,hb2⟩
 have hN2:=below_heap hb2 (heap_lt HN1.out) HN1.out
 have i0:=heap_cell (i:=0) hN2
 have i1:=heap_cell (i:=1) hN2
 have i2:=heap_cell (i:=2) hN2
 have HB2:=hid (below_seq HB1.out hb2)
 clear hN2 hb2 j0 j1 j2 HC3
 obtain ⟨kz,hkz⟩:∃ kz,kz=k M:=⟨_,rfl⟩
 rw [←hkz]
 have HKZ:=hid hkz
 clear hkz
 go_wp2_with fail
 refine (HC1.out w2 HB2.out).mono ?_
 rintro e w3 ⟨rfl,hb3⟩
 have HB3:=hid (below_seq HB2.out hb3)
 clear hb3 i0 i1 i2 HC1
 obtain ⟨fz,hfz⟩:∃ fz,fz=f M:=⟨_,rfl⟩
 rw [←hfz]
 have HFZ:=hid hfz
 clear hfz
 have HP:=hid (show choiceR f g k M=choiceV gz kz fz by rw [HGZ.out,HKZ.out,HFZ.out];rfl)
 clear HGZ HKZ HFZ
 cases gz with
 | none =>
  have HP2:=hid (HP.out.trans (show choiceV none kz fz=none by simp [choiceV]))
  cases fz
  all_goals
   simp only [Option.getD_none,Option.isSome_none,Option.getD_some,Option.isSome_some]
   go_wp2
   go_ret2
   rw [HP2.out]
   exact ⟨rfl,below_seq HBL.out HB3.out⟩
 | some b =>
  cases kz with
  | none =>
   have HP2:=hid (HP.out.trans (show choiceV (some b) none fz=none by simp [choiceV]))
   cases fz
   all_goals
    simp only [Option.getD_none,Option.isSome_none,Option.getD_some,Option.isSome_some]
    go_wp2
    go_ret2
    rw [HP2.out]
    exact ⟨rfl,below_seq HBL.out HB3.out⟩
  | some d =>
   cases fz with
   | none =>
    have HP2:=hid (HP.out.trans (show choiceV (some b) (some d) none=none by simp [choiceV]))
    simp only [Option.getD_none,Option.isSome_none,Option.getD_some,Option.isSome_some]
    go_wp2
    go_ret2
    rw [HP2.out]
    exact ⟨rfl,below_seq HBL.out HB3.out⟩
   | some a =>
    have HP2:=hid (HP.out.trans (show choiceV (some b) (some d) (some a)=some (bif a == 1 then b else d) from rfl))
    simp only [Option.getD_some,Option.isSome_some]
    go_wp2_with fail
    refine (worthOf_any true w3).mono ?_
    rw [show (if (true=true) then (1:Int) else 0)=1 from rfl]
    rintro e w4 ⟨rfl,rfl⟩
    cases h1:(a == 1) with
    | true =>
     have HP3:=hid (HP2.out.trans (by rw [h1];rfl:some (bif a == 1 then b else d)=some b))
     go_wp2
     go_ret2
     rw [HP3.out]
     exact ⟨rfl,below_seq HBL.out HB3.out⟩
    | false =>
     have HP3:=hid (HP2.out.trans (by rw [h1];rfl:some (bif a == 1 then b else d)=some d))
     go_wp2
     go_ret2
     rw [HP3.out]
     exact ⟨rfl,below_seq HBL.out HB3.out⟩
theorem reckons_enc:∀ e:Ex,numsOk e→Reckons (encX e) (fun M=>reckX M e)
 | ⟨.inl n,_⟩,h=>reckons_number n h.1 h.2
 | ⟨.inr (.inl b),_⟩,_=>reckons_truth b
 | ⟨.inr (.inr (.inl t)),_⟩,_=>reckons_name t
 | ⟨.inr (.inr (.inr (.inl op))),s'⟩,h=>by
  have:=reckons_pair h.1 (reckons_enc (s' false) h.2.1) (reckons_enc (s' true) h.2.2)
  exact this
 | ⟨.inr (.inr (.inr (.inr u))),s'⟩,h=>by
  have h1:=reckons_choice (reckons_enc (s' none) h.1) (reckons_enc (s' (some false)) h.2.1) (reckons_enc (s' (some true)) h.2.2)
  have e:(fun M=>reckX M ⟨.inr (.inr (.inr (.inr u))),s'⟩)=choiceR (fun M=>reckX M (s' none)) (fun M=>reckX M (s' (some false))) (fun M=>reckX M (s' (some true))):=by
   funext M
   simp only [reckX,choiceR,two,three]
   cases reckX M (s' (some false)) with
   | none=>simp [choiceV]
   | some b =>
    cases reckX M (s' (some true)) with
    | none=>simp [choiceV]
    | some d =>
     cases reckX M (s' none) with
     | none=>simp [choiceV]
     | some a=>simp only [choiceV];cases (a == 1) <;> rfl
  rw [e]
  exact h1
theorem reckon_any {e:Ex} (h:numsOk e) (mv:Value) (M:ByteArray→Int) (w:World) (hM:MW mv M w) :
 Calls Tryz.prog 107 #[encX e,mv] w fun e' w'=>e' = .returned (.tuple #[.int .i64 ((reckX M e).getD 0), .bool (reckX M e).isSome])∧Below w.heap.size w w':=by
 obtain ⟨⟨T,v,u,F,hx,m1,e1,_,c1⟩,_⟩:=reckons_enc e h
 rw [hx]
 have hc:=c1 mv M w hM
 simp only at hc
 have HC:=hid hc
 clear hc
 clear c1 hM
 obtain ⟨r,hr⟩:∃ r,r=reckX M e:=⟨_,rfl⟩
 rw [←hr] at HC ⊢
 clear hr hx
 go_enter Tryz.func107,Tryz.ntmps107
 go_wp2_with fail
 refine HC.out.mono ?_
 rintro e' w1 ⟨rfl,hb⟩
 go_wp2
 go_ret2
 exact ⟨rfl,hb⟩
end Go.Proofs.YthibodlojlkppaaGreatDoor
namespace Go.Proofs.YthibodlojlkppaaGreatDoor
open Go.RowKit
def BAt (B b:Nat) (p:Value) (bs:List Value) (w:World):Prop:=Lib.BuilderAt 119 5 B b p bs w
def IsB (B b:Nat) (bs:List Value) (w:World):Prop:=Lib.IsBuilder 119 5 B b bs w
def KT (b:Nat) (w w':World):Prop:=∀ k,k < w.heap.size→k≠b→(∀ cs fr,w.heap[k]? ≠ some (.cells cs 5 fr))→w'.heap[k]? = w.heap[k]?
theorem KT.refl (b:Nat) (w:World):KT b w w:=fun _ _ _ _=>rfl
theorem KT.trans {b:Nat} {w w1 w2:World} (h:KT b w w1) (hs:w.heap.size≤w1.heap.size) (h2:KT b w1 w2):KT b w w2:=fun k hk hn hc=>by
 have e:=h k hk hn hc
 rw [h2 k (by omega) hn (fun cs fr=>by rw [e];exact hc cs fr),e]
theorem KT.alloc (b:Nat) (w:World) (o:Obj):KT b w (w.alloc o):=fun k hk _ _=>Below.heap_alloc _ _ _ hk
theorem KT.setCell (b i:Nat) (w:World) (v:Value):KT b w (w.setCell ⟨b,i,none⟩ v):=fun k _ hn _=>heap_setCell_ne hn v
theorem KT.grown {b B n:Nat} {w w':World} {v:Value} {xs:List Value} (hown:w.ownsRow B 5 1 v n xs) (hg:w.grownBy w' v.ownBlock):KT b w w':=fun k hk _ hc=>hg.block k hk fun e=>by
 obtain ⟨_,⟨rfl,_⟩ | ⟨g,cap,cur,rfl,_,hg2,_⟩⟩:=hown
 · simp [Value.ownBlock] at e
 · simp [Value.ownBlock] at e
   subst e
   exact hc _ _ hg2
theorem KT.get {b k:Nat} {w w':World} (h:KT b w w') {cs:Array Value} {T:TypeId} {fr:Nat × Nat} (hk:w.heap[k]? = some (.cells cs T fr)) (hn:k≠b) (hT:T≠5):w'.heap[k]? = some (.cells cs T fr) :=
 (h k (heap_lt hk) hn (fun cs' fr' e=>by rw [hk] at e;injection e with e;injection e with e1 e2 e3;exact hT e2)).trans hk
theorem szB:(Tryz.prog.info? 119).map (·.size)=some 2:=by kernel_rfl
theorem liesB:liesAt Tryz.prog Tryz.prog.depth 119 (2 / Tryz.prog.cellsOf 119) 0 119 1=true:=by kernel_rfl
theorem infoU8:(Tryz.prog.info? 5).map (fun i=>(i.zero,i.size,i.bytes))=some (some (.int .u8 0),1,1):=by kernel_rfl
theorem bCheck_used (b:Nat) (w:World) (h0:w.cell? ⟨b,0,none⟩=some (.pointer (some ⟨b,0,none⟩))) :
 Calls Tryz.prog 91 #[.pointer (some ⟨b,0,none⟩)] w fun e w'=>e = .returned (.tuple #[])∧w'=w:=by
 obtain ⟨j,hj,_⟩:=Option.map_eq_some_iff.1 szB
 go_enter Tryz.func91,Tryz.ntmps91
 go_wp2
 rw [Lib.run_neq_ptr_same w _ Tryz.underlying116 hj]
 go_wp2
 go_end0
 exact ⟨rfl,rfl⟩
theorem bCheck_fresh (b:Nat) (w:World) (h0:w.cell? ⟨b,0,none⟩=some (.pointer none)) (hsh:w.shape? b=some (119,2)) (hfz:w.frozen? ⟨b,0,none⟩=false) :
 Calls Tryz.prog 91 #[.pointer (some ⟨b,0,none⟩)] w fun e w'=>e = .returned (.tuple #[])∧w'=w.setCell ⟨b,0,none⟩ (.pointer (some ⟨b,0,none⟩)):=by
 obtain ⟨j,hj,hjs⟩:=Option.map_eq_some_iff.1 szB
 go_enter Tryz.func91,Tryz.ntmps91
 go_wp2
 rw [Lib.run_to_unsafe w ⟨b,0,none⟩ Tryz.underlying116 Tryz.underlying219 hj (by rw [hjs];decide) hsh (Nat.zero_lt_succ 1)]
 simp only [Result.andThen]
 rw [Oper.upon_value]
 go_wp2
 rw [run_callFunc_extern Tryz.func120 (by kernel_rfl) (by kernel_rfl) (by kernel_rfl) (e:=Extern.AbiNoEscape.same) (by kernel_rfl)]
 rw [Lib.run_noEscape]
 simp only [Result.andThen]
 rw [Oper.upon_value]
 go_wp2
 rw [Lib.run_from_unsafe w ⟨b,0,none⟩ Tryz.underlying219 Tryz.underlying116 hj hsh liesB]
 simp only [Result.andThen]
 rw [Oper.upon_value]
 go_wp2
 go_end0
 exact ⟨rfl,rfl⟩
end Go.Proofs.YthibodlojlkppaaGreatDoor

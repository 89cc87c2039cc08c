/-
  The program's names: those that stand in an expr, each once, in order. The program's Uses: the files that a tree uses, each once. The engine's model: what holds of its memos; steps that keep it.
-/
import Derived.Test.YthibodlojlkppaaGreatDoorB15
import Derived.Test.YthibodlojlkppaaGreatDoorB21
import Derived.Laws.OwnMore
set_option linter.unusedVariables false
set_option linter.unusedSectionVars false
set_option linter.unusedSimpArgs false
set_option maxRecDepth 100000
set_option maxHeartbeats 40000000

namespace Go.Proofs.YthibodlojlkppaaGreatDoor
open Go.RowKit
variable [DecidableEq K] [LawfulBEq Lk]
theorem infoStrG:(Tryz.prog.info? 9).map (fun i=>(i.zero,i.size,i.bytes))=some (some (.string ⟨#[]⟩),1,16):=by kernel_rfl
structure NM (w w':World) (rv rv':Value):Prop where
 env:w'.os=w.os∧w'.tape=w.tape∧w'.output=w.output
 size:w.heap.size≤w'.heap.size
 far:∀ b,b < w.heap.size→rv.ownBlock≠some b→w'.heap[b]? = w.heap[b]?
 loc:∀ g,rv'.ownBlock=some g→rv.ownBlock=some g∨w.heap.size≤g
theorem NM.refl (w:World) (rv:Value):NM w w rv rv:=⟨⟨rfl,rfl,rfl⟩,Nat.le_refl _,fun _ _ _=>rfl,fun _ h => .inl h⟩
theorem NM.trans {w w1 w2:World} {r r1 r2:Value} (h:NM w w1 r r1) (k:NM w1 w2 r1 r2):NM w w2 r r2 :=
 ⟨⟨k.env.1.trans h.env.1,k.env.2.1.trans h.env.2.1,k.env.2.2.trans h.env.2.2⟩,Nat.le_trans h.size k.size,fun b hb hn=>(k.far b (Nat.lt_of_lt_of_le hb h.size) fun e=>(h.loc b e).elim hn fun x=>by omega).trans (h.far b hb hn),fun g hg=>(k.loc g hg).elim (h.loc g) fun x => .inr (Nat.le_trans h.size x)⟩
theorem NM.drewN {w:World} (rv:Value) (m:Nat):NM w (w.drewN m) rv rv:=⟨⟨rfl,rfl,rfl⟩,Nat.le_refl _,fun _ _ _=>rfl,fun _ h => .inl h⟩
theorem NM.of_below {w w':World} (h:Below w.heap.size w w') (rv:Value):NM w w' rv rv:=⟨⟨h.os,h.tape,h.output⟩,h.size,fun b hb _=>h.block b hb,fun _ h => .inl h⟩
def Namings (x:Value) (e:Ex):Prop :=
 ∃ (T:TypeId) (v u:Value) (F:FuncId),x = .iface T v∧(∀ w,(method 414 T v "almanac/lang.names").run Tryz.prog w = .ok (F,u) w)∧(∀ args w,(callFunc F args).run Tryz.prog w = .ok (.enter F args) w)∧Tryz.prog.inits.idxOf? F=none ∧
  ∀ (B:Nat) (l:List ByteArray) (rv:Value) (w:World),w.ownsRow B 9 1 rv l.length (l.map .string)→B≤w.heap.size→l.length+sizeX e≤100000 →
   Calls Tryz.prog F #[u,rv] w fun e' w' => ∃ rv',e' = .returned rv'∧w'.ownsRow B 9 1 rv' (namesX e l).length ((namesX e l).map .string)∧NM w w' rv rv'
theorem nmNumber (n:Int) (w:World):(method 414 197 (.int .i64 n) "almanac/lang.names").run Tryz.prog w = .ok (244,(.int .i64 n)) w:=by kernel_rfl
theorem neNumber (args:Array Value) (w:World):(callFunc 244 args).run Tryz.prog w = .ok (.enter 244 args) w:=by kernel_rfl
theorem nmTruth (n:Bool) (w:World):(method 414 290 (.bool n) "almanac/lang.names").run Tryz.prog w = .ok (257,(.bool n)) w:=by kernel_rfl
theorem neTruth (args:Array Value) (w:World):(callFunc 257 args).run Tryz.prog w = .ok (.enter 257 args) w:=by kernel_rfl
theorem nmName (n:ByteArray) (w:World):(method 414 291 (.string n) "almanac/lang.names").run Tryz.prog w = .ok (261,(.string n)) w:=by kernel_rfl
theorem neName (args:Array Value) (w:World):(callFunc 261 args).run Tryz.prog w = .ok (.enter 261 args) w:=by kernel_rfl
theorem nmPair (n:Value) (w:World):(method 414 271 n "almanac/lang.names").run Tryz.prog w = .ok (250,n) w:=by kernel_rfl
theorem nePair (args:Array Value) (w:World):(callFunc 250 args).run Tryz.prog w = .ok (.enter 250 args) w:=by kernel_rfl
theorem nmChoice (n:Value) (w:World):(method 414 293 n "almanac/lang.names").run Tryz.prog w = .ok (265,n) w:=by kernel_rfl
theorem neChoice (args:Array Value) (w:World):(callFunc 265 args).run Tryz.prog w = .ok (.enter 265 args) w:=by kernel_rfl
theorem namings_number (n:Int):Namings (.iface 197 (.int .i64 n)) (.num n):=by
 refine ⟨_,_,_,_,rfl,nmNumber _,neNumber,by kernel_rfl,fun B l rv w hown hB hs => ?_⟩
 go_enter Tryz.func244,Tryz.ntmps244
 go_wp2
 go_ret
 exact ⟨rv,rfl,hown,NM.refl _ _⟩
theorem namings_truth (b:Bool):Namings (.iface 290 (.bool b)) (.tru b):=by
 refine ⟨_,_,_,_,rfl,nmTruth _,neTruth,by kernel_rfl,fun B l rv w hown hB hs => ?_⟩
 go_enter Tryz.func257,Tryz.ntmps257
 go_wp2
 go_ret
 exact ⟨rv,rfl,hown,NM.refl _ _⟩
theorem own_shape {w:World} {B z n:Nat} {T:TypeId} {v:Value} {xs:List Value} (h:w.ownsRow B T z v n xs):∃ ao c,v = .slice ao n c:=by
 obtain ⟨_,⟨h1,h0⟩ | ⟨g,c,_,h1,_⟩⟩:=h
 · exact ⟨none,0,by rw [h1,h0]⟩
 · exact ⟨_,_,h1⟩
theorem own_strs {w:World} {B c:Nat} {ao:Option Addr} {l:List ByteArray} (h:w.ownsRow B 9 1 (.slice ao l.length c) l.length (l.map .string)):∀ (i:Nat) t,l[i]? = some t→∃ g,ao=some ⟨g,0,none⟩∧w.cell? ⟨g,i,none⟩=some (.string t):=by
 intro i t hi
 have hlt:=(List.getElem?_eq_some_iff.1 hi).1
 obtain ⟨_,⟨h1,h0⟩ | ⟨g,c',cur,h1,h2,h3⟩⟩:=id h
 · omega
 · simp only [Value.slice.injEq] at h1
   obtain ⟨rfl,_,rfl⟩:=h1
   refine ⟨g,rfl,?_⟩
   rw [h.cellAt i (by omega),List.getElem?_map,hi]
   rfl
theorem namings_name (t:ByteArray):Namings (.iface 291 (.string t)) (.nam t):=by
 refine ⟨_,_,_,_,rfl,nmName _,neName,by kernel_rfl,fun B l rv w hown hB hs => ?_⟩
 obtain ⟨ao,c,rfl⟩:=own_shape hown
 obtain ⟨i0,hi0,hz0,hz1,hz2⟩:=info_parts infoStrG
 have HCO:=hid (containsStr (c:=c) (by omega) (own_strs hown) t)
 have HOWN:=hid hown
 have HS:=hid hs
 clear hown hs
 go_enter Tryz.func261,Tryz.ntmps261
 go_wp2_with fail
 refine HCO.out.mono ?_
 rintro e w1 ⟨rfl,m,rfl⟩
 cases hm:memB l t with
 | true =>
  have HM:=hid (show namesX (.nam t) l=l by simp [namesX,hm,two,three])
  clear hm
  go_wp2
  go_ret
  rw [HM.out]
  exact ⟨_,rfl,own_far HOWN.out fun _ _=>rfl,NM.drewN _ m⟩
 | false =>
  have HM:=hid (show namesX (.nam t) l=l ++ [t] by simp [namesX,hm,two,three])
  have hown0:=own_far (w':=w.drewN m) HOWN.out fun _ _=>rfl
  have hBd:B≤(w.drewN m).heap.size:=hB
  have HW:=hid (NM.drewN (w:=w) (.slice ao l.length c) m)
  clear hm
  generalize w.drewN m=wd at hown0 hBd HW ⊢
  go_wp2_with (at_builtin;refine wpList_append_own_at _ rfl _ _ 25 rfl B 9 i0 (.string ⟨#[]⟩) 1 16 Tryz.underlying25 hi0 hz0 hz1 hz2 rfl (by decide) (.slice ao l.length c) l.length (l.map .string) (by rfl) (hown0.alloc _) ⟨wd.heap.size,0,none⟩ 1 1 [.string t] rfl rfl ?c1 ?c2 ?c3 ?c4 ?c5 ?_)
  all_goals first
   | (intro j u hj
      match j,hj with
      | 0,hj=>simp at hj;subst hj;exact World.cell?_alloc_at _ _ _ _ (by simp)
      | (n+1),hj=>simp at hj)
   | (intro u hu;simp at hu;subst hu;rfl)
   | (have:=HS.out;unfold maxLen;omega)
   | (have:=HS.out;omega)
   | (simp;omega)
   | skip
  all_goals
   intro v' w5 hown' hgrow hnil hloc
   have hvb:∀ q,v'.ownBlock=some q→(Value.slice ao l.length c).ownBlock=some q∨wd.heap.size≤q:=fun q hq=>by
    rcases hloc with h1 | h1
    · exact .inl (h1.symm.trans hq)
    · refine .inr ?_
      have h3:=Option.some.inj (h1.symm.trans hq)
      rw [←h3]
      omega
   have HN:=hid (show NM wd w5 (.slice ao l.length c) v' from ⟨⟨hgrow.os,hgrow.tape,hgrow.output⟩,by have:=hgrow.size;simp at this;omega,fun b hb hne=>(hgrow.block b (by simp;omega) (fun e=>hne e.symm)).trans (Below.heap_alloc _ _ _ hb),hvb⟩)
   have HO:=hid hown'
   obtain ⟨a',c',rfl⟩:=own_shape hown'
   clear hown' hgrow hnil hloc hvb hown0
   go_wp2
   go_ret
   rw [HM.out]
   exact ⟨_,rfl,by simpa using HO.out,HW.out.trans HN.out⟩
theorem Drawn.nm {a W:World} (h:Drawn a W) (rv:Value):NM a W rv rv:=NM.of_below h.below rv
def NmC (u:Value) (F:FuncId) (B:Nat) (rv:Value) (l':List ByteArray) (pb:Nat) (o:Obj) (w0:World) (rv0:Value) (A:World) (K:World→Value→Prop):Prop :=
 ∀ W,Drawn A W→Calls Tryz.prog F #[u,rv] W fun e w1 => ∃ a1 b1,e = .returned (.slice a1 l'.length b1)∧w1.heap[pb]? = some o∧K w1 (.slice a1 l'.length b1)
theorem nmC_of {u:Value} {F:FuncId} {e:Ex} {B:Nat} {l:List ByteArray} {rv:Value} {A:World} {pb:Nat} {o:Obj} {w0:World} {rv0:Value} {K:World→Value→Prop}
 (c:∀ (B:Nat) (l:List ByteArray) (rv:Value) (w:World),w.ownsRow B 9 1 rv l.length (l.map .string)→B≤w.heap.size→l.length+sizeX e≤100000 →
   Calls Tryz.prog F #[u,rv] w fun e' w' => ∃ rv',e' = .returned rv'∧w'.ownsRow B 9 1 rv' (namesX e l).length ((namesX e l).map .string)∧NM w w' rv rv')
 (hown:A.ownsRow B 9 1 rv l.length (l.map .string)) (hB:B≤A.heap.size) (hs:l.length+sizeX e≤100000) (hpb:A.heap[pb]? = some o) (hne:rv.ownBlock≠some pb) (hN:NM w0 A rv0 rv)
 (hK:∀ w1 rv1,w1.ownsRow B 9 1 rv1 (namesX e l).length ((namesX e l).map .string)→w1.heap[pb]? = some o→rv1.ownBlock≠some pb→B≤w1.heap.size→NM w0 w1 rv0 rv1→K w1 rv1):NmC u F B rv (namesX e l) pb o w0 rv0 A K:=by
 intro W hW
 refine (c B l rv W (hW.own hown) (by rw [hW.1];exact hB) hs).mono ?_
 rintro e' w1 ⟨rv1,rfl,h1,h2⟩
 obtain ⟨a1,b1,rfl⟩:=own_shape h1
 have hp:=heap_lt hpb
 have hp1:w1.heap[pb]? = some o:=(h2.far pb (by rw [hW.1];exact hp) hne).trans (by rw [hW.1];exact hpb)
 refine ⟨a1,b1,rfl,hp1,hK _ _ h1 hp1 (fun e => ?_) (Nat.le_trans hB (by have:=h2.size;rw [hW.1] at this;exact this)) (hN.trans ((hW.nm rv).trans h2))⟩
 rcases h2.loc pb e with h3 | h3
 · exact hne h3
 · rw [hW.1] at h3;omega
theorem namings_pair {op:List UInt8} {l r:Value} {f g:Ex} (hl:Namings l f) (hr:Namings r g):Namings (mkPair ⟨⟨op⟩⟩ l r) (.pair op f g):=by
 obtain ⟨T1,v1,u1,F1,rfl,m1,e1,_,c1⟩:=hl
 obtain ⟨T2,v2,u2,F2,rfl,m2,e2,_,c2⟩:=hr
 refine ⟨_,_,_,_,rfl,nmPair _,nePair,by kernel_rfl,fun B l rv w hown hB hs => ?_⟩
 have hlen:=names_len f l
 simp only [sizeX,two,three] at hs
 have hbl:=below_new w (.cells #[.string ⟨⟨op⟩⟩, .iface T1 v1, .iface T2 v2] 271)
 have hN:=new_heap w (.cells #[.string ⟨⟨op⟩⟩, .iface T1 v1, .iface T2 v2] 271)
 have hne:rv.ownBlock≠some w.heap.size:=fun e=>Nat.lt_irrefl _ (hown.lt _ e).2
 have HC1:=hid (nmC_of (w0:=w) (rv0:=rv) (K:=fun w1 rv1=>Hid (NmC u2 F2 B rv1 (namesX g (namesX f l)) w.heap.size (.cells #[.string ⟨⟨op⟩⟩, .iface T1 v1, .iface T2 v2] 271) w rv w1 fun w2 rv2=>Hid (w2.ownsRow B 9 1 rv2 (namesX g (namesX f l)).length ((namesX g (namesX f l)).map .string)∧NM w w2 rv rv2))) c1 (hown.alloc _) (Nat.le_trans hB hbl.size) (by omega) hN hne (NM.of_below hbl rv) fun w1 rv1 h1 h2 h3 h4 h5=>hid (nmC_of c2 h1 h4 (by omega) h2 h3 h5 fun w2 rv2 k1 k2 k3 k4 k5=>hid ⟨k1,k5⟩))
 have k1:=heap_cell (i:=1) hN
 have k2:=heap_cell (i:=2) hN
 have k1':(w.alloc (.cells #[.string ⟨⟨op⟩⟩, .iface T1 v1, .iface T2 v2] 271)).drew.cell? ⟨w.heap.size,1,none⟩=_:=k1
 have k2':(w.alloc (.cells #[.string ⟨⟨op⟩⟩, .iface T1 v1, .iface T2 v2] 271)).drew.cell? ⟨w.heap.size,2,none⟩=_:=k2
 clear c1 c2 hbl hN hown hne hs hlen
 go_enter Tryz.func250,Tryz.ntmps250
 go_wp2_with fail
 go_region_with (first
  | (refine (HC1.out _ ?hd).mono ?_;(case hd=>exact ⟨rfl,rfl,rfl,rfl⟩);rintro e w1 ⟨a1,b1,rfl,hN1,hk1⟩;have j1:=heap_cell (i:=1) hN1;have j2:=heap_cell (i:=2) hN1;have j1':w1.drew.cell? ⟨w.heap.size,1,none⟩=_:=j1;have j2':w1.drew.cell? ⟨w.heap.size,2,none⟩=_:=j2)
  | (refine (hk1.out _ ?hd).mono ?_;(case hd=>exact ⟨rfl,rfl,rfl,rfl⟩);rintro e w2 ⟨a2,b2,rfl,hN2,hk2⟩))
 all_goals
  go_wp2
  go_ret
  exact ⟨_,rfl,hk2.out.1,hk2.out.2⟩
theorem namings_choice {c y n:Value} {f g k:Ex} (hc:Namings c f) (hy:Namings y g) (hn:Namings n k):Namings (mkChoice c y n) (.choice f g k):=by
 obtain ⟨T1,v1,u1,F1,rfl,m1,e1,_,c1⟩:=hc
 obtain ⟨T2,v2,u2,F2,rfl,m2,e2,_,c2⟩:=hy
 obtain ⟨T3,v3,u3,F3,rfl,m3,e3,_,c3⟩:=hn
 refine ⟨_,_,_,_,rfl,nmChoice _,neChoice,by kernel_rfl,fun B l rv w hown hB hs => ?_⟩
 have hlen:=names_len f l
 have hlen2:=names_len g (namesX f l)
 simp only [sizeX,two,three] at hs
 have hbl:=below_new w (.cells #[.iface T1 v1, .iface T2 v2, .iface T3 v3] 293)
 have hN:=new_heap w (.cells #[.iface T1 v1, .iface T2 v2, .iface T3 v3] 293)
 have hne:rv.ownBlock≠some w.heap.size:=fun e=>Nat.lt_irrefl _ (hown.lt _ e).2
 have HC1:=hid (nmC_of (w0:=w) (rv0:=rv) (K:=fun w1 rv1=>Hid (NmC u2 F2 B rv1 (namesX g (namesX f l)) w.heap.size (.cells #[.iface T1 v1, .iface T2 v2, .iface T3 v3] 293) w rv w1 fun w2 rv2=>Hid (NmC u3 F3 B rv2 (namesX k (namesX g (namesX f l))) w.heap.size (.cells #[.iface T1 v1, .iface T2 v2, .iface T3 v3] 293) w rv w2 fun w3 rv3=>Hid (w3.ownsRow B 9 1 rv3 (namesX k (namesX g (namesX f l))).length ((namesX k (namesX g (namesX f l))).map .string)∧NM w w3 rv rv3)))) c1 (hown.alloc _) (Nat.le_trans hB hbl.size) (by omega) hN hne (NM.of_below hbl rv) fun w1 rv1 h1 h2 h3 h4 h5=>hid (nmC_of c2 h1 h4 (by omega) h2 h3 h5 fun w2 rv2 k1 k2 k3 k4 k5=>hid (nmC_of c3 k1 k4 (by omega) k2 k3 k5 fun w3 rv3 q1 q2 q3 q4 q5=>hid ⟨q1,q5⟩)))
 have k0:=heap_cell (i:=0) hN
 have k1:=heap_cell (i:=1) hN
 have k2:=heap_cell (i:=2) hN
 have k0':(w.alloc (.cells #[.iface T1 v1, .iface T2 v2, .iface T3 v3] 293)).drew.cell? ⟨w.heap.size,0,none⟩=_:=k0
 have k1':(w.alloc (.cells #[.iface T1 v1, .iface T2 v2, .iface T3 v3] 293)).drew.cell? ⟨w.heap.size,1,none⟩=_:=k1
 have k2':(w.alloc (.cells #[.iface T1 v1, .iface T2 v2, .iface T3 v3] 293)).drew.cell? ⟨w.heap.size,2,none⟩=_:=k2
 clear c1 c2 c3 hbl hN hown hne hs hlen hlen2
 go_enter Tryz.func265,Tryz.ntmps265
 go_wp2_with fail
 go_region_with (first
  | (refine (HC1.out _ ?hd).mono ?_;(case hd=>exact ⟨rfl,rfl,rfl,rfl⟩);rintro e w1 ⟨a1,b1,rfl,hN1,hk1⟩;have j0:=heap_cell (i:=0) hN1;have j1:=heap_cell (i:=1) hN1;have j2:=heap_cell (i:=2) hN1;have j0':w1.drew.cell? ⟨w.heap.size,0,none⟩=_:=j0;have j1':w1.drew.cell? ⟨w.heap.size,1,none⟩=_:=j1;have j2':w1.drew.cell? ⟨w.heap.size,2,none⟩=_:=j2)
  | (refine (hk1.out _ ?hd).mono ?_;(case hd=>exact ⟨rfl,rfl,rfl,rfl⟩);rintro e w2 ⟨a2,b2,rfl,hN2,hk2⟩;have i0:=heap_cell (i:=0) hN2;have i1:=heap_cell (i:=1) hN2;have i2:=heap_cell (i:=2) hN2;have i0':w2.drew.cell? ⟨w.heap.size,0,none⟩=_:=i0;have i1':w2.drew.cell? ⟨w.heap.size,1,none⟩=_:=i1;have i2':w2.drew.cell? ⟨w.heap.size,2,none⟩=_:=i2)
  | (refine (hk2.out _ ?hd).mono ?_;(case hd=>exact ⟨rfl,rfl,rfl,rfl⟩);rintro e w3 ⟨a3,b3,rfl,hN3,hk3⟩))
 all_goals
  go_wp2
  go_ret
  exact ⟨_,rfl,hk3.out.1,hk3.out.2⟩
theorem namings_enc:∀ e:Ex,Namings (encX e) e
 | ⟨.inl n,_⟩=>namings_number n
 | ⟨.inr (.inl b),_⟩=>namings_truth b
 | ⟨.inr (.inr (.inl t)),_⟩=>namings_name t
 | ⟨.inr (.inr (.inr (.inl op))),s'⟩=>namings_pair (namings_enc (s' false)) (namings_enc (s' true))
 | ⟨.inr (.inr (.inr (.inr _))),s'⟩=>namings_choice (namings_enc (s' none)) (namings_enc (s' (some false))) (namings_enc (s' (some true)))
theorem names_any {e:Ex} (h:sizeX e≤100000) (w:World) :
 Calls Tryz.prog 102 #[encX e] w fun e' w' => ∃ ao c,e' = .returned (.slice ao (namesX e []).length c)∧w'.ownsRow w.heap.size 9 1 (.slice ao (namesX e []).length c) (namesX e []).length ((namesX e []).map .string)∧Below w.heap.size w w':=by
 obtain ⟨T,v,u,F,hx,m1,e1,_,c1⟩:=namings_enc e
 rw [hx]
 have HC:=hid (c1 w.heap.size [] (.slice none 0 0) w (World.ownsRow_nil _ _ _ _) (Nat.le_refl _) (by simpa using h))
 clear c1 hx
 obtain ⟨l,hl⟩:∃ l,l=namesX e []:=⟨_,rfl⟩
 rw [←hl] at HC ⊢
 clear hl
 go_enter Tryz.func102,Tryz.ntmps102
 go_wp2_with fail
 refine HC.out.mono ?_
 rintro e' w1 ⟨rv,rfl,hown,hnm⟩
 obtain ⟨a,b,rfl⟩:=own_shape hown
 have HO:=hid hown
 have HN:=hid hnm
 clear hown hnm
 go_wp2
 go_ret
 exact ⟨a,b,rfl,HO.out,HN.out.env.1,HN.out.env.2.1,HN.out.env.2.2,HN.out.size,fun k hk=>HN.out.far k hk (by simp [Value.ownBlock])⟩
theorem usesX_snoc (i:Itx):∀ (l:List Itx) (acc:List ByteArray),usesX (l ++ [i]) acc=(if i.kind == 0 && !memB (usesX l acc) i.name then usesX l acc ++ [i.name] else usesX l acc)
 | [],acc=>by
  simp only [List.nil_append,usesX]
  first | rfl | (split <;> simp_all)
 | a :: l,acc=>by
  simp only [List.cons_append,usesX]
  split
  · exact usesX_snoc i l _
  · exact usesX_snoc i l _
theorem usesX_len:∀ (l:List Itx) (acc:List ByteArray),(usesX l acc).length≤acc.length+l.length
 | [],acc=>by simp [usesX]
 | a :: l,acc=>by
  simp only [usesX]
  split
  · have:=usesX_len l (acc ++ [a.name]);simp at this ⊢;omega
  · have:=usesX_len l acc;simp at this ⊢;omega
theorem one_cellU (w:World) (b:Nat) (hb:b=w.heap.size) (x:Value) (T:TypeId):∀ j u,[x][j]? = some u→(w.alloc (.cells #[x] T)).cell? ((⟨b,0,none⟩:Addr).add j)=some u:=by
 intro j u hj
 match j,hj with
 | 0,hj=>simp at hj;subst hj;subst hb;exact World.cell?_alloc_at _ _ _ _ (by simp)
 | (n+1),hj=>simp at hj
structure UX (its:List Itx) (ao:Option Addr) (c:Nat) (fault:Value) (w wr:World) (k:Nat) (v:Value):Prop where
 bl:Below w.heap.size w wr
 pr:wr.heap[w.heap.size]? = some (.cells #[.slice ao its.length c,fault] 87)
 own:wr.ownsRow (w.heap.size+1) 9 1 v (usesX (its.take k) []).length ((usesX (its.take k) []).map .string)
theorem UX.lt {its:List Itx} {ao:Option Addr} {c:Nat} {fault:Value} {w wr:World} {k:Nat} {v:Value} (h:UX its ao c fault w wr k v):w.heap.size < wr.heap.size:=heap_lt h.pr
theorem UX.cell {its:List Itx} {ao:Option Addr} {c g:Nat} {fault:Value} {w wr:World} {k':Nat} {v:Value} (h:UX its ao c fault w wr k' v) {cur:Array Value} (hg:w.heap[g]? = some (.cells cur 137 (0,0))) (hc:cur.toList.take (its.length * 5)=(its.map itOf).flatMap itCells) {k:Nat} {i:It} (hi:(its.map itOf)[k]? = some i) {j:Nat} {u:Value} (hj:(itCells i)[j]? = some u) :
 wr.cell? ⟨g,k * 5+j,none⟩=some u:=by
 have h1:=below_heap h.bl (heap_lt hg) hg
 have hj5:j < 5:=by
  rcases Nat.lt_or_ge j 5 with h5 | h5
  · exact h5
  · simp [itCells,List.getElem?_eq_none (show [Value.int .i64 i.kind, .int .i64 i.num, .string i.name, .string i.typ,i.ex].length≤j by simpa using h5)] at hj
 have h2:=flat5n (its.map itOf) k j i hi hj5
 rw [hj] at h2
 have h3:=take_get hc h2
 rw [heap_cell h1,←Array.getElem?_toList,h3]
theorem UX.below {its:List Itx} {ao:Option Addr} {c:Nat} {fault:Value} {w wr w':World} {k:Nat} {v:Value} (h:UX its ao c fault w wr k v) (hb:Below wr.heap.size wr w'):UX its ao c fault w w' k v :=
 ⟨below_seq h.bl hb,below_heap hb (heap_lt h.pr) h.pr,own_far h.own fun g hg=>hb.block g (h.own.lt g hg).2⟩
theorem UX.skip {its:List Itx} {ao:Option Addr} {c:Nat} {fault:Value} {w wr:World} {k:Nat} {v:Value} (h:UX its ao c fault w wr k v) {i:Itx} (hi:its[k]? = some i) (hn:(i.kind == 0 && !memB (usesX (its.take k) []) i.name)=false):UX its ao c fault w wr (k+1) v:=by
 have e:its.take (k+1)=its.take k ++ [i]:=by rw [List.take_add_one,hi];rfl
 refine ⟨h.bl,h.pr,?_⟩
 rw [e,usesX_snoc,hn]
 exact h.own
theorem UX.put {its:List Itx} {ao:Option Addr} {c:Nat} {fault:Value} {w wr w':World} {k:Nat} {v v':Value} (h:UX its ao c fault w wr k v) {i:Itx} (hi:its[k]? = some i) (hn:(i.kind == 0 && !memB (usesX (its.take k) []) i.name)=true)
 (hown:w'.ownsRow (w.heap.size+1) 9 1 v' ((usesX (its.take k) []).length+1) ((usesX (its.take k) []).map .string ++ [.string i.name])) (hg:wr.grownBy w' v.ownBlock):UX its ao c fault w w' (k+1) v':=by
 have e:its.take (k+1)=its.take k ++ [i]:=by rw [List.take_add_one,hi];rfl
 have hlt:=fun k hk=>(h.own.lt k hk).1
 refine ⟨h.bl.grown hg (Nat.le_of_lt h.lt) (fun k hk=>by have:=hlt k hk;omega),?_,?_⟩
 · exact (hg.block _ h.lt fun e=>by have:=hlt _ e.symm;omega).trans h.pr
 · rw [e,usesX_snoc,hn]
   simpa using hown
theorem uses_any (its:List Itx) (hn:its.length≤401) (fault:Value) (ao:Option Addr) (c:Nat) (w:World)
 (hao:0 < its.length→∃ g cur,ao=some ⟨g,0,none⟩∧w.heap[g]? = some (.cells cur 137 (0,0))∧cur.toList.take (its.length * 5)=(its.map itOf).flatMap itCells) :
 Calls Tryz.prog 128 #[.agg #[.slice ao its.length c,fault]] w fun e w' => ∃ ao' c',e = .returned (.slice ao' (usesX its []).length c')∧w'.ownsRow (w.heap.size+1) 9 1 (.slice ao' (usesX its []).length c') (usesX its []).length ((usesX its []).map .string)∧Below w.heap.size w w':=by
 obtain ⟨i0,hi0,hz0,hz1,hz2⟩:=info_parts infoStrG
 have k0:(w.alloc (.cells #[.slice ao its.length c,fault] 87)).cell? ⟨w.heap.size,0,none⟩=some (.slice ao its.length c):=heap_cell (i:=0) (new_heap w _)
 have HAO:=hid hao
 have HE0:Hid (UX its ao c fault w (w.alloc (.cells #[.slice ao its.length c,fault] 87)) 0 (.slice none 0 0)):=hid
  ⟨(Below.refl _ _).alloc (Nat.le_refl _) _,new_heap _ _,World.ownsRow_nil _ _ _ _⟩
 clear hao
 go_enter Tryz.func128,Tryz.ntmps128
 go_wp2
 go_loopg [3,9] its.length (fun f v v8 wr => ∃ k,k+f=its.length∧v8 = .int .i64 (k:Nat)∧UX its ao c fault w wr k v)
 case atStart=>exact ⟨0,by omega,rfl,HE0.out⟩
 case round =>
  clear HE0 k0
  obtain ⟨k,hk,rfl,hext⟩:=hrel
  obtain ⟨no,nc,rfl⟩:=own_shape hext.own
  have HT:=hid hext
  clear hext
  by_cases hlt:k < its.length
  · obtain ⟨g,cur,rfl,hg,hc⟩:=HAO.out (by omega)
    have hi:=List.getElem?_eq_getElem hlt
    generalize hii:its[k]=i at hi
    have hi2:(its.map itOf)[k]? = some (itOf i):=by rw [List.getElem?_map,hi];rfl
    have hexi:=exV_shape i
    obtain ⟨ik,inum,inm,ity,iex⟩:=i
    have z0:=HT.out.cell hg hc hi2 (j:=0) rfl
    have z1:=HT.out.cell hg hc hi2 (j:=1) rfl
    have z2:=HT.out.cell hg hc hi2 (j:=2) rfl
    have z3:=HT.out.cell hg hc hi2 (j:=3) rfl
    have z4:=HT.out.cell hg hc hi2 (j:=4) rfl
    rw [Nat.add_zero] at z0
    simp only [itOf] at z0 z1 z2 z3 z4 hexi
    obtain ⟨ev,hev⟩:∃ ev,ev=exV iex:=⟨_,rfl⟩
    rw [←hev] at z4 hexi
    have hlt2:(k:Int) < (its.length:Int):=by omega
    have hkc:(0:Int)≤(k:Int):=by omega
    have HI:=hid hi
    clear hg hc hi hii hi2 hev
    have HLEN:=hid (show (usesX (its.take k) []).length≤401 by have:=usesX_len (its.take k) [];simp only [List.length_take,List.length_nil] at this;omega)
    rcases hexi with rfl | ⟨T,ue,rfl⟩
    all_goals
     cases h2:(ik == 0) with
     | false =>
      have hi3:¬ ((ik:Int)=0):=by
       rw [beq_eq_false_iff_ne] at h2;omega
      have hb2:((ik:Int) == 0)=false:=by rw [beq_eq_false_iff_ne];exact hi3
      have HN2:=hid h2
      clear h2
      go_wp2
      go_roundg (its.length - (k+1))
      case rel=>exact ⟨k+1,by omega,by go_num,(HT.out.below (below_new _ _)).skip HI.out (by simp only;rw [HN2.out];rfl)⟩
      case measure=>omega
     | true =>
      have hi3:((ik:Int)=0):=by
       rw [beq_iff_eq] at h2;omega
      have hb2:((ik:Int) == 0)=true:=by rw [beq_iff_eq];exact hi3
      have HN2:=hid h2
      have HOB:=HT.out.lt
      clear h2
      have HTA:=hid (fun o=>HT.out.below (below_new wr o))
      have HCO:=hid (fun o=>containsStr (c:=nc) (w:=wr.alloc o) (by have:=HLEN.out;omega) (own_strs (HTA.out o).own) inm)
      go_wp2_with fail
      refine (HCO.out _).mono ?_
      rintro e w2 ⟨rfl,m,hm⟩
      have HT2:=hid (show UX its _ c fault w w2 k _ by rw [hm];exact (HTA.out _).below (below_drewN _ m))
      have hz:w2.cell? ⟨wr.heap.size,2,none⟩=some (.string inm):=by rw [hm];exact heap_cell (i:=2) (new_heap wr _)
      clear hm HTA HCO z0 z1 z2 z3 z4
      cases h3:memB (usesX (its.take k) []) inm with
      | true =>
       have HN3:=hid h3
       clear h3
       go_wp2
       go_roundg (its.length - (k+1))
       case rel=>exact ⟨k+1,by omega,by go_num,HT2.out.skip HI.out (by simp only;rw [HN2.out,HN3.out];rfl)⟩
       case measure=>omega
      | false =>
       have HN3:=hid h3
       have hown0:=HT2.out.own
       have HLT:=HT2.out.lt
       clear h3
       go_wp2_with (at_builtin;go_must (refine wpList_append_own _ rfl _ _ 25 rfl (w.heap.size+1) 9 i0 (.string ⟨#[]⟩) 1 16 Tryz.underlying25 hi0 hz0 hz1 hz2 rfl (by decide) _ _ _ rfl (hown0.alloc _) ⟨_,0,none⟩ 1 1 [.string inm] rfl rfl (one_cellU _ _ (by simp) _ _) ?c2 ?c3 ?c4 ?c5 ?_))
       case c2=>first | rfl | (intro u hu;simp at hu;subst hu;rfl)
       case c3=>have:=HLEN.out;unfold maxLen;omega
       case c4=>have:=HLEN.out;omega
       case c5=>first | omega | (simp;omega)
       intro v' w4 hown' hgrow _
       have ht4:=(HT2.out.below (below_new _ _)).put HI.out (by simp only;rw [HN2.out,HN3.out];rfl) hown' hgrow
       have HSH:=hid (own_shape hown')
       have HT4:=hid ht4
       clear ht4 hown' hgrow hown0
       obtain ⟨ao',c',rfl⟩:=HSH.out
       clear HSH
       go_wp2
       go_roundg (its.length - (k+1))
       case rel=>exact ⟨k+1,by omega,by go_num,HT4.out⟩
       case measure=>omega
  · have hke:k=its.length:=by omega
    subst hke
    have hown:=HT.out.own
    rw [List.take_length] at hown
    have HO:=hid hown
    have HBL:=hid HT.out.bl
    rw [List.take_length]
    clear hown
    go_wp2
    go_ret
    exact ⟨no,nc,rfl,HO.out,HBL.out⟩
end Go.Proofs.YthibodlojlkppaaGreatDoor
namespace Go.Proofs.YthibodlojlkppaaGreatDoor
variable [DecidableEq K] [LawfulBEq Lk]
section
variable {V:Type}
abbrev Txt:=ByteArray→Option ByteArray
structure Spec (wp:K→Prog V) (lp:V) (F:Txt) (a:K→V):Prop where
 fix:∀ k,evalP F a (wp k)=some (a k)
 cyc:∀ k j,Lk.slot j∈qs F a (wp k)→Reach F a wp j k→a k=lp
 rank:∀ k j,Lk.slot j∈qs F a (wp k)→rk j < rk k∨(k.kind=7∧j.kind=7)
structure Uni (wp:K→Prog V) (F:Txt) (a:K→V) (U:List K) (Q:Nat):Prop where
 clo:∀ k∈U,∀ j,Lk.slot j∈qs F a (wp k)→j∈U
 len:∀ k∈U,(qs F a (wp k)).length+2≤Q
 big:Q≤BIG
 sz:∀ k∈U,k.file.size≤BIG∧k.name.size≤BIG
 ssz:∀ k∈U,∀ f,Lk.src f∈qs F a (wp k)→f.size≤BIG
structure MemOk (a:K→V) (rev uses:Nat) (k:K) (m:Memo V):Prop where
 v0:m.ver=none→m.val=none
 v1:∀ v,m.ver=some v→v=rev
 v2:∀ x,m.val=some x→x=a k
 us:m.used≤uses
structure Inv (F:Txt) (a:K→V) (st:St V):Prop where
 files:st.files=F
 mem:∀ k m,st.sl k=some m→MemOk a st.rev st.uses k m
 kp:∀ k,k∈st.kept↔∃ m x,st.sl k=some m∧m.val=some x
 nd:st.kept.Nodup
def actB (st:St V) (k:K):Bool:=match st.sl k with | some m=>m.act | none=>false
def doneB (st:St V) (k:K):Bool:=decide (k∈st.kept)
structure Mono (X:K→Prop) (st st':St V):Prop where
 rev:st'.rev=st.rev
 files:st'.files=st.files
 slot:∀ k m,st.sl k=some m→∃ m',st'.sl k=some m'∧(¬ X k→m'.act=m.act∧(m.act=true→m'=m))
 new:∀ k,¬ X k→st.sl k=none→∀ m',st'.sl k=some m'→m'.act=false
 kept:∀ k∈st.kept,k∈st'.kept
abbrev X0:K→Prop:=fun _=>False
theorem Mono.refl (X:K→Prop) (st:St V):Mono X st st :=
 ⟨rfl,rfl,fun k m h=>⟨m,h,fun _=>⟨rfl,fun _=>rfl⟩⟩,fun k _ h m' h'=>(by rw [h] at h';cases h'),fun _ h=>h⟩
theorem Mono.trans {X:K→Prop} {st st1 st2:St V} (h:Mono X st st1) (g:Mono X st1 st2):Mono X st st2:=by
 refine ⟨g.rev.trans h.rev,g.files.trans h.files,fun k m x => ?_,fun k hX x m' y => ?_,fun k x=>g.kept k (h.kept k x)⟩
 · obtain ⟨m1,e1,f1⟩:=h.slot k m x
   obtain ⟨m2,e2,f2⟩:=g.slot k m1 e1
   refine ⟨m2,e2,fun hx => ?_⟩
   obtain ⟨a1,b1⟩:=f1 hx
   obtain ⟨a2,b2⟩:=f2 hx
   exact ⟨a2.trans a1,fun ha=>(b2 (a1.trans ha)).trans (b1 ha)⟩
 · cases h1:st1.sl k with
   | none=>exact g.new k hX h1 m' y
   | some m1 =>
    obtain ⟨m2,e2,f2⟩:=g.slot k m1 h1
    have hm:=h.new k hX x m1 h1
    rw [y] at e2
    cases e2
    exact (f2 hX).1.trans hm
theorem Mono.weak {X Y:K→Prop} {st st':St V} (h:Mono X st st') (hx:∀ k,X k→Y k):Mono Y st st' :=
 ⟨h.rev,h.files,fun k m x=>let ⟨m',e,f⟩:=h.slot k m x;⟨m',e,fun n=>f fun y=>n (hx k y)⟩,fun k n=>h.new k fun y=>n (hx k y),h.kept⟩
theorem Mono.actB {st st':St V} (h:Mono X0 st st') (k:K):actB st' k=actB st k:=by
 unfold Go.Proofs.YthibodlojlkppaaGreatDoor.actB
 cases h1:st.sl k with
 | none =>
  cases h2:st'.sl k with
  | none=>rfl
  | some m'=>exact h.new k id h1 m' h2
 | some m =>
  obtain ⟨m',e,f⟩:=h.slot k m h1
  rw [e]
  exact (f id).1
theorem Mono.act {st st':St V} (h:Mono X0 st st') {k:K} {m:Memo V} (hk:st.sl k=some m) (ha:m.act=true):st'.sl k=some m:=by
 obtain ⟨m',e,f⟩:=h.slot k m hk
 rw [e,(f id).2 ha]
def Und (U:List K) (st:St V):Nat:=U.countP fun k => !doneB st k
def Ina (U:List K) (st:St V):Nat:=U.countP fun k => !actB st k
def Psi (U:List K) (st:St V):Nat:=st.began.length+(1+U.length) * Und U st
def KB (U:List K) (st:St V):Nat:=st.kept.length+Und U st
def US (M Q:Nat) (st:St V):Nat:=st.uses+Q * (M - st.began.length)
theorem Mono.ina {st st':St V} (h:Mono X0 st st') (U:List K):Ina U st'=Ina U st:=by
 unfold Ina
 congr 1
 funext k
 rw [h.actB]
section
variable {F:Txt} {a:K→V} {st:St V}
theorem Inv.find (h:Inv F a st) (k:K):Inv F a (st.find k)∧Mono X0 st (st.find k)∧(∃ m,(st.find k).sl k=some m)∧(st.find k).began=st.began∧(st.find k).kept=st.kept∧(st.find k).uses=st.uses:=by
 unfold St.find
 cases hk:st.sl k with
 | some m=>exact ⟨h,Mono.refl _ _,⟨m,hk⟩,rfl,rfl,rfl⟩
 | none =>
  have hkp:k ∉ st.kept:=fun hm=>by obtain ⟨m,x,e,_⟩:=(h.kp k).1 hm;rw [hk] at e;cases e
  refine ⟨⟨h.files,fun j m hj => ?_,fun j => ?_,h.nd⟩,⟨rfl,rfl,fun j m hj=>⟨m,?_,fun _=>⟨rfl,fun _=>rfl⟩⟩,fun j _ hj m' hm' => ?_,fun _ x=>x⟩,⟨newM,by simp [St.put]⟩,rfl,rfl,rfl⟩
  · by_cases hjk:j=k
    · subst hjk
      simp [St.put] at hj
      subst hj
      exact ⟨fun _=>rfl,fun v hv=>by simp [newM] at hv,fun v hv=>by simp [newM] at hv,Nat.zero_le _⟩
    · simp [St.put,hjk] at hj
      exact h.mem j m hj
  · by_cases hjk:j=k
    · subst hjk
      constructor
      · intro hm;exact absurd hm hkp
      · rintro ⟨m,x,e,f⟩
        simp [St.put] at e
        subst e
        simp [newM] at f
    · simp only [St.put,hjk,if_false]
      exact h.kp j
  · have:j≠k:=fun e1=>by rw [e1,hk] at hj;cases hj
    simp [St.put,this,hj]
  · by_cases hjk:j=k
    · subst hjk
      simp [St.put] at hm'
      subst hm'
      rfl
    · simp [St.put,hjk,hj] at hm'
theorem Inv.source (h:Inv F a st) (f:ByteArray):Inv F a (st.source f)∧Mono X0 st (st.source f)∧(st.source f).began=st.began∧(st.source f).kept=st.kept∧(st.source f).uses=st.uses:=by
 unfold St.source
 cases hf:st.src f with
 | some c=>exact ⟨h,Mono.refl _ _,rfl,rfl,rfl⟩
 | none=>exact ⟨⟨h.files,h.mem,h.kp,h.nd⟩,⟨rfl,rfl,fun j m hj=>⟨m,hj,fun _=>⟨rfl,fun _=>rfl⟩⟩,fun j _ hj m' hm'=>(by simp [hj] at hm'),fun _ x=>x⟩,rfl,rfl,rfl⟩
theorem MemOk.up {rev u u':Nat} {k:K} {m:Memo V} (h:MemOk a rev u k m) (hu:u≤u'):MemOk a rev u' k m:=⟨h.v0,h.v1,h.v2,Nat.le_trans h.us hu⟩
theorem Inv.put (h:Inv F a st) {k:K} {m m':Memo V} (hk:st.sl k=some m) (hm:MemOk a st.rev st.uses k m') (hv:m'.val.isSome=m.val.isSome):Inv F a (st.put k m'):=by
 refine ⟨h.files,fun j n hj => ?_,fun j => ?_,h.nd⟩
 · by_cases hjk:j=k
   · subst hjk
     simp [St.put] at hj
     subst hj
     exact hm
   · simp [St.put,hjk] at hj
     exact h.mem j n hj
 · by_cases hjk:j=k
   · subst hjk
     refine (h.kp j).trans ?_
     simp only [St.put,if_true,Option.some.injEq,hk]
     constructor
     · rintro ⟨_,x,rfl,e⟩
       rw [e] at hv
       obtain ⟨y,hy⟩:=Option.isSome_iff_exists.1 hv
       exact ⟨m',y,rfl,hy⟩
     · rintro ⟨_,x,rfl,e⟩
       rw [e] at hv
       obtain ⟨y,hy⟩:=Option.isSome_iff_exists.1 hv.symm
       exact ⟨m,y,rfl,hy⟩
   · simp only [St.put,hjk,if_false]
     exact h.kp j
theorem actB_put {k:K} {m:Memo V} {j:K} (hj:j≠k):actB (st.put k m) j=actB st j:=by
 simp [actB,St.put,hj]
theorem Mono.put {k:K} {m':Memo V}:Mono (· = k) st (st.put k m'):=by
 refine ⟨rfl,rfl,fun j n hj => ?_,fun j hn hj n hn' => ?_,fun _ x=>x⟩
 · by_cases hjk:j=k
   · exact ⟨m',by simp [St.put,hjk],fun x=>absurd hjk x⟩
   · exact ⟨n,by simp [St.put,hjk,hj],fun _=>⟨rfl,fun _=>rfl⟩⟩
 · by_cases hjk:j=k
   · exact absurd hjk hn
   · simp [St.put,hjk,hj] at hn'
def Last (st:St V) (k:K):Prop:=∃ m,st.sl k=some m∧m.used=st.uses∧m.ver=some st.rev∧k∈st.kept∧∀ j n,j≠k→st.sl j=some n→n.used < st.uses
theorem Inv.use (h:Inv F a st) {k:K} (hk:k∈st.kept) (hu:st.uses+1 < W64):Inv F a (st.use k)∧Mono (· = k) st (st.use k)∧(st.use k).began=st.began∧(st.use k).kept=st.kept∧(st.use k).uses=st.uses+1∧(∀ m,st.sl k=some m→(st.use k).sl k=some { m with used:=st.uses+1 })∧Last (st.use k) k:=by
 obtain ⟨m,x,hm,hx⟩:=(h.kp k).1 hk
 have hw:(st.uses+1) % W64=st.uses+1:=Nat.mod_eq_of_lt hu
 have e:st.use k = { st.put k { m with used:=st.uses+1 } with uses:=st.uses+1 }:=by
  simp [St.use,hm,hk,St.put,hw]
 have hmo:=h.mem k m hm
 have hsl:∀ j,(st.use k).sl j=if j=k then some { m with used:=st.uses+1 } else st.sl j:=fun j=>by rw [e];rfl
 have h2:=Mono.put (st:=st) (k:=k) (m':={ m with used:=st.uses+1 })
 have hver:m.ver=some st.rev:=by
  cases hv:m.ver with
  | none=>rw [hmo.v0 hv] at hx;cases hx
  | some v=>rw [hmo.v1 v hv]
 refine ⟨⟨by rw [e];exact h.files,fun j n hj => ?_,fun j => ?_,by rw [e];exact h.nd⟩,by rw [e];exact ⟨h2.rev,h2.files,h2.slot,h2.new,h2.kept⟩,by rw [e];rfl,by rw [e];rfl,by rw [e],fun n hn => ?_,⟨{ m with used:=st.uses+1 },by rw [hsl,if_pos rfl],by rw [e],by rw [e];exact hver,by rw [e];exact hk,fun j n hj hn => ?_⟩⟩
 · rw [hsl] at hj
   have h3:(st.use k).rev=st.rev∧(st.use k).uses=st.uses+1:=by rw [e];exact ⟨rfl,rfl⟩
   rw [h3.1,h3.2]
   by_cases hjk:j=k
   · rw [if_pos hjk] at hj;cases hj
     subst hjk
     exact ⟨hmo.v0,hmo.v1,hmo.v2,Nat.le_refl _⟩
   · rw [if_neg hjk] at hj
     exact (h.mem j n hj).up (by omega)
 · have h3:(st.use k).kept=st.kept:=by rw [e];rfl
   rw [h3,hsl,h.kp j]
   by_cases hjk:j=k
   · subst hjk
     rw [if_pos rfl,hm]
     constructor
     · rintro ⟨m1,y,h1,hy⟩;cases h1;exact ⟨_,y,rfl,hy⟩
     · rintro ⟨m1,y,h1,hy⟩;cases h1;exact ⟨_,y,rfl,hy⟩
   · rw [if_neg hjk]
 · rw [hm] at hn;cases hn
   rw [hsl,if_pos rfl]
 · rw [hsl,if_neg hj] at hn
   have:=(h.mem j n hn).us
   rw [e]
   show n.used < st.uses+1
   omega
end
end
end Go.Proofs.YthibodlojlkppaaGreatDoor

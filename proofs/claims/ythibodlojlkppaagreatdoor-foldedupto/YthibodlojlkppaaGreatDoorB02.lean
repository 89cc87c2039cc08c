/-
  The parser: expr, out of sum. The parser: chain, sum, product. The parser: nested, bracket, choice. The parser: bracket.
-/
import Derived.Test.YthibodlojlkppaaGreatDoorB01
import Derived.Deep.LoopGhost
import Derived.Deep.RegionWith
set_option linter.unusedVariables false
set_option linter.unusedSectionVars false
set_option linter.unusedSimpArgs false
set_option maxRecDepth 100000
set_option maxHeartbeats 40000000

namespace Go.Proofs.YthibodlojlkppaaGreatDoor
open Go.RowKit
def Post (toks:List Tok) (pb tb cap nest b:Nat) (r:Option Value) (w:World):Ending→World→Prop:=fun e w' =>
 (∃ v,e = .returned (.tuple #[v, .bool r.isSome])∧Ifc v∧(∀ x,r=some x→v=x))∧PS toks pb tb cap b nest w'.heap∧b < toks.length∧Fr [pb] w w'
def OK (toks:List Tok) (F:FuncId) (tag g:Nat):Prop :=
 ∀ (pb tb cap nest a b:Nat) (r:Option Value) (w:World),P toks g tag nest a .nilIface=some (b,r)→a < toks.length→nest≤20→PS toks pb tb cap a nest w.heap →
  Calls Tryz.prog F #[.pointer (some ⟨pb,0,none⟩)] w (Post toks pb tb cap nest b r w)
theorem andP_cases {p:PR} {k:Nat→Value→PR} {z:Nat × Option Value} (h:andP p k=some z):(∃ c,p=some (c,none)∧z=(c,none))∨∃ c x,p=some (c,some x)∧k c x=some z:=by
 unfold andP at h
 split at h
 · cases h
 · cases h;exact .inl ⟨_,rfl,rfl⟩
 · exact .inr ⟨_,_,rfl,h⟩
theorem isT_eqB (toks:List Tok) (i:Nat) (l:List UInt8):isT toks i l=eqB (tx toks i) ⟨⟨l⟩⟩:=by
 simp [isT,eqB,ByteArray.toList_eq]
theorem expr_ok {toks:List Tok} (hw:Wf toks) {g:Nat} (hs:OK toks 174 1 g):OK toks 157 0 (g+1):=by
 intro pb tb cap nest a b r w h ha hnest hP
 have HS:=hid hs
 have HW:=hid hw
 have HP:=hid hP
 clear hs hw hP
 simp only [P] at h
 rcases andP_cases h with ⟨c,h1,h2⟩ | ⟨c,x,h1,h2⟩
 · have e1:=(Prod.mk.inj h2).1
   have e2:=(Prod.mk.inj h2).2
   subst e1;subst e2
   have H1:=hid h1
   clear h h1 h2
   go_enter Tryz.func157,Tryz.ntmps157
   go_wp2_with fail
   refine (HS.out pb tb cap nest a _ _ _ H1.out ha hnest HP.out).mono ?_
   rintro e w1 ⟨⟨v,rfl,hv,_⟩,hP1,hb1,hF1⟩
   have HP1:=hid hP1
   have HF1:=hid hF1
   have HV:=hid hv
   clear hP1 hF1 hv
   go_wp2
   go_ret2
   exact ⟨⟨v,rfl,HV.out,fun x h=>by cases h⟩,HP1.out,hb1,HF1.out⟩
 have H1:=hid h1
 clear h h1
 cases ht:isT toks c [61,61] with
 | false =>
  rw [ht,if_neg (by simp)] at h2
  have e1:=(Prod.mk.inj (Option.some.inj h2)).1
  have e2:=(Prod.mk.inj (Option.some.inj h2)).2
  subst e1;subst e2
  have HT:Hid (eqB (tx toks c) ⟨#[61,61]⟩=false):=hid ((isT_eqB toks c [61,61]).symm.trans ht)
  clear ht h2
  go_enter Tryz.func157,Tryz.ntmps157
  go_wp2_with fail
  refine (HS.out pb tb cap nest a _ _ _ H1.out ha hnest HP.out).mono ?_
  rintro e w1 ⟨⟨v,rfl,hv,hx⟩,hP1,hb1,hF1⟩
  obtain rfl:=hx x rfl
  have HP1:=hid hP1
  have HF1:=hid hF1
  have HV:=hid hv
  clear hP1 hF1 hv hx
  go_wp2_with fail
  refine (take_no toks pb tb cap _ nest _ _ HP1.out hb1 HT.out).mono ?_
  rintro e w2 ⟨rfl,hP2,hF2⟩
  have HP2:=hid hP2
  have HF2:=hid hF2
  clear hP2 hF2
  go_wp2
  go_ret2
  exact ⟨⟨_,rfl,HV.out,fun x h=>by cases h;rfl⟩,HP2.out,hb1,HF1.out.trans HF2.out⟩
 | true =>
  rw [ht,if_pos rfl] at h2
  have HT:Hid (eqB (tx toks c) ⟨#[61,61]⟩=true):=hid ((isT_eqB toks c [61,61]).symm.trans ht)
  have HN:Hid (c < toks.length→c+1 < toks.length):=hid fun hc=>HW.out.next_isT hc ht
  have HL:=hid HW.out.le
  clear ht
  rcases andP_cases h2 with ⟨d,h3,h4⟩ | ⟨d,y,h3,h4⟩
  · have e1:=(Prod.mk.inj h4).1
    have e2:=(Prod.mk.inj h4).2
    subst e1;subst e2
    have H3:=hid h3
    clear h2 h3 h4
    go_enter Tryz.func157,Tryz.ntmps157
    go_wp2_with fail
    refine (HS.out pb tb cap nest a _ _ _ H1.out ha hnest HP.out).mono ?_
    rintro e w1 ⟨⟨v,rfl,hv,hx⟩,hP1,hb1,hF1⟩
    obtain rfl:=hx x rfl
    have HP1:=hid hP1
    have HF1:=hid hF1
    have HV:=hid hv
    clear hP1 hF1 hv hx
    go_wp2_with fail
    refine (take_yes toks pb tb cap _ nest _ _ HP1.out hb1 HL.out HT.out).mono ?_
    rintro e w2 ⟨rfl,hP2,hF2⟩
    have HP2:=hid hP2
    have HF2:=hid hF2
    clear hP2 hF2
    go_wp2_with fail
    refine (HS.out pb tb cap nest _ _ _ _ H3.out (HN.out hb1) hnest HP2.out).mono ?_
    rintro e w3 ⟨⟨v3,rfl,hv3,_⟩,hP3,hb3,hF3⟩
    have HP3:=hid hP3
    have HF3:=hid hF3
    have HV3:=hid hv3
    clear hP3 hF3 hv3
    rcases HV.out with rfl | ⟨t1,y1,rfl⟩ <;> rcases HV3.out with rfl | ⟨t3,y3,rfl⟩
    all_goals
     go_wp2
     go_ret2
     exact ⟨⟨_,rfl, .inr ⟨_,_,rfl⟩,fun x h=>by cases h⟩,HP3.out,hb3,(HF1.out.trans HF2.out).trans HF3.out⟩
  · have e1:=(Prod.mk.inj (Option.some.inj h4)).1
    have e2:=(Prod.mk.inj (Option.some.inj h4)).2
    subst e1;subst e2
    have H3:=hid h3
    clear h2 h3 h4
    go_enter Tryz.func157,Tryz.ntmps157
    go_wp2_with fail
    refine (HS.out pb tb cap nest a _ _ _ H1.out ha hnest HP.out).mono ?_
    rintro e w1 ⟨⟨v,rfl,hv,hx⟩,hP1,hb1,hF1⟩
    obtain rfl:=hx x rfl
    have HP1:=hid hP1
    have HF1:=hid hF1
    have HV:=hid hv
    clear hP1 hF1 hv hx
    go_wp2_with fail
    refine (take_yes toks pb tb cap _ nest _ _ HP1.out hb1 HL.out HT.out).mono ?_
    rintro e w2 ⟨rfl,hP2,hF2⟩
    have HP2:=hid hP2
    have HF2:=hid hF2
    clear hP2 hF2
    go_wp2_with fail
    refine (HS.out pb tb cap nest _ _ _ _ H3.out (HN.out hb1) hnest HP2.out).mono ?_
    rintro e w3 ⟨⟨v3,rfl,hv3,hx3⟩,hP3,hb3,hF3⟩
    obtain rfl:=hx3 y rfl
    have HP3:=hid hP3
    have HF3:=hid hF3
    have HV3:=hid hv3
    clear hP3 hF3 hv3 hx3
    rcases HV.out with rfl | ⟨t1,y1,rfl⟩ <;> rcases HV3.out with rfl | ⟨t3,y3,rfl⟩
    all_goals
     go_wp2
     go_ret2
     exact ⟨⟨_,rfl, .inr ⟨_,_,rfl⟩,fun x h=>by cases h;rfl⟩,HP3.out,hb3,(HF1.out.trans HF2.out).trans HF3.out⟩
def ChainAt (toks:List Tok) (pb tb cap nest b:Nat) (r:Option Value) (w:World) (rtag k:Nat) (lv okv:Value) (wr:World):Prop :=
 Ifc lv∧Fr [pb] w wr∧((∃ f c,okv = .bool true∧k=f+1∧P toks f rtag nest c lv=some (b,r)∧c < toks.length∧PS toks pb tb cap c nest wr.heap) ∨
  (okv = .bool false∧r=none∧b < toks.length∧PS toks pb tb cap b nest wr.heap))
theorem chain_plus {toks:List Tok} (hw:Wf toks) {g:Nat} (hs:∀ g',g'≤g→OK toks 185 2 g') (pb tb cap nest a b:Nat) (r:Option Value) (w:World)
 (h:andP (P toks g 2 nest a .nilIface) (fun b x=>P toks g 4 nest b x)=some (b,r)) (ha:a < toks.length) (hnest:nest≤20) (hP:PS toks pb tb cap a nest w.heap) :
 Calls Tryz.prog 184 #[.pointer (some ⟨pb,0,none⟩), .string ⟨#[43]⟩, .func (Fn.func 185) #[.pointer (some ⟨pb,0,none⟩)] #[]] w (Post toks pb tb cap nest b r w):=by
 have HS:=hid hs
 have HW:=hid hw
 have HP:=hid hP
 have HL:=hid hw.le
 clear hs hw hP
 have hstart:∃ c r1,P toks g 2 nest a .nilIface=some (c,r1)∧((r1=none∧b=c∧r=none)∨∃ x,r1=some x∧P toks g 4 nest c x=some (b,r)):=by
  rcases andP_cases h with ⟨c,h1,h2⟩ | ⟨c,x,h1,h2⟩
  · exact ⟨c,none,h1, .inl ⟨rfl,(Prod.mk.inj h2).1,(Prod.mk.inj h2).2⟩⟩
  · exact ⟨c,some x,h1, .inr ⟨x,rfl,h2⟩⟩
 obtain ⟨c,r1,h1,hr1⟩:=hstart
 have H1:=hid h1
 have HR:=hid hr1
 clear h h1 hr1
 go_enter Tryz.func184,Tryz.ntmps184
 go_wp2_with fail
 refine (HS.out g (Nat.le_refl _) pb tb cap nest a _ _ _ H1.out ha hnest HP.out).mono ?_
 rintro e w1 ⟨⟨v,rfl,hv,hx⟩,hP1,hb1,hF1⟩
 have HAT:Hid (∃ k,k≤g+1∧ChainAt toks pb tb cap nest b r w 4 k v (.bool r1.isSome) w1):=by
  refine hid ?_
  rcases HR.out with ⟨h1,h2,h3⟩ | ⟨x,h1,h2⟩
  · subst h1;subst h2;subst h3
    exact ⟨0,by omega,hv,hF1, .inr ⟨rfl,rfl,hb1,hP1⟩⟩
  · subst h1
    obtain rfl:=hx x rfl
    exact ⟨g+1,by omega,hv,hF1, .inl ⟨g,c,rfl,rfl,h2,hb1,hP1⟩⟩
 clear hP1 hF1 hx hv hb1 HR H1
 generalize r1.isSome=ok1 at HAT ⊢
 go_wp2
 obtain ⟨k1,hk1,hat⟩:=HAT.out
 have HA1:=hid hat
 clear hat HAT
 go_loopg [8,9] k1 (fun k lv okv wr=>k≤g+1∧ChainAt toks pb tb cap nest b r w 4 k lv okv wr)
 case atStart=>exact ⟨hk1,HA1.out⟩
 case round =>
  clear HA1 hk1
  obtain ⟨hk,hi,hF,hor⟩:=hrel
  have HF:=hid hF
  clear hF
  rcases hor with ⟨f,c2,rfl,rfl,hpf,hc2,hps⟩ | ⟨rfl,hr,hb,hps⟩
  · have HPS:=hid hps
    clear hps
    obtain ⟨f,rfl⟩:∃ f',f=f'+1:=by
     cases f with
     | zero=>simp [P] at hpf
     | succ f'=>exact ⟨f',rfl⟩
    simp only [P] at hpf
    cases ht:isT toks c2 [43] with
    | false =>
     rw [ht,if_neg (by simp)] at hpf
     have e1:=(Prod.mk.inj (Option.some.inj hpf)).1
     have e2:=(Prod.mk.inj (Option.some.inj hpf)).2
     have HT:Hid (eqB (tx toks c2) ⟨#[43]⟩=false):=hid ((isT_eqB toks c2 [43]).symm.trans ht)
     have HI:=hid hi
     subst e1;subst e2
     clear ht hpf hi
     go_wp2_with (go_at_call 143;go_must (refine (take_no toks pb tb cap _ nest _ _ HPS.out hc2 HT.out).mono ?_;rintro e w2 ⟨rfl,hP2,hF2⟩;have HP2:=hid hP2;have HF2:=hid hF2;clear hP2 hF2))
     go_ret2
     exact ⟨⟨_,rfl,HI.out,fun x h=>by cases h;rfl⟩,HP2.out,hc2,HF.out.trans HF2.out⟩
    | true =>
     rw [ht,if_pos rfl] at hpf
     have HT:Hid (eqB (tx toks c2) ⟨#[43]⟩=true):=hid ((isT_eqB toks c2 [43]).symm.trans ht)
     have HN:Hid (c2+1 < toks.length):=hid (HW.out.next_isT hc2 ht)
     clear ht
     rcases andP_cases hpf with ⟨d,h3,h4⟩ | ⟨d,y,h3,h4⟩
     · have e1:=(Prod.mk.inj h4).1
       have e2:=(Prod.mk.inj h4).2
       subst e1;subst e2
       have H3:=hid h3
       clear hpf h3 h4
       rcases hi with rfl | ⟨t1,y1,rfl⟩
       all_goals
        go_wp2_with (first
         | (go_at_call 143;go_must (refine (take_yes toks pb tb cap _ nest _ _ HPS.out hc2 HL.out HT.out).mono ?_;rintro e w2 ⟨rfl,hP2,hF2⟩;have HP2:=hid hP2;have HF2:=hid hF2;clear hP2 hF2))
         | (go_at_call 185;go_must (refine (HS.out f (by omega) pb tb cap nest _ _ _ _ H3.out HN.out hnest HP2.out).mono ?_;rintro e w3 ⟨⟨v3,rfl,hv3,_⟩,hP3,hb3,hF3⟩;have HP3:=hid hP3;have HF3:=hid hF3;have HV3:=hid hv3;clear hP3 hF3 hv3;rcases HV3.out with rfl | ⟨t3,y3,rfl⟩)))
       all_goals
        go_roundg 0
       all_goals first
        | omega
        | exact ⟨by omega, .inr ⟨_,_,rfl⟩,(HF.out.trans HF2.out).trans HF3.out, .inr ⟨rfl,rfl,hb3,HP3.out⟩⟩
     · have H3:=hid h3
       have H4:=hid h4
       clear hpf h3 h4
       rcases hi with rfl | ⟨t1,y1,rfl⟩
       all_goals
        go_wp2_with (first
         | (go_at_call 143;go_must (refine (take_yes toks pb tb cap _ nest _ _ HPS.out hc2 HL.out HT.out).mono ?_;rintro e w2 ⟨rfl,hP2,hF2⟩;have HP2:=hid hP2;have HF2:=hid hF2;clear hP2 hF2))
         | (go_at_call 185;go_must (refine (HS.out f (by omega) pb tb cap nest _ _ _ _ H3.out HN.out hnest HP2.out).mono ?_;rintro e w3 ⟨⟨v3,rfl,hv3,hx3⟩,hP3,hb3,hF3⟩;obtain rfl:=hx3 y rfl;have HP3:=hid hP3;have HF3:=hid hF3;have HV3:=hid hv3;clear hP3 hF3 hv3 hx3;rcases HV3.out with rfl | ⟨t3,y3,rfl⟩)))
       all_goals
        go_roundg (f+1)
       all_goals first
        | omega
        | exact ⟨by omega, .inr ⟨_,_,rfl⟩,(HF.out.trans HF2.out).trans HF3.out, .inl ⟨f,d,rfl,rfl,H4.out,hb3,HP3.out⟩⟩
  · have HPS:=hid hps
    have HI:=hid hi
    subst hr
    clear hps hi
    go_wp2
    go_ret2
    exact ⟨⟨_,rfl,HI.out,fun x h=>by cases h⟩,HPS.out,hb,HF.out⟩
theorem chain_times {toks:List Tok} (hw:Wf toks) {g:Nat} (hs:∀ g',g'≤g→OK toks 187 3 g') (pb tb cap nest a b:Nat) (r:Option Value) (w:World)
 (h:andP (P toks g 3 nest a .nilIface) (fun b x=>P toks g 5 nest b x)=some (b,r)) (ha:a < toks.length) (hnest:nest≤20) (hP:PS toks pb tb cap a nest w.heap) :
 Calls Tryz.prog 184 #[.pointer (some ⟨pb,0,none⟩), .string ⟨#[42]⟩, .func (Fn.func 187) #[.pointer (some ⟨pb,0,none⟩)] #[]] w (Post toks pb tb cap nest b r w):=by
 have HS:=hid hs
 have HW:=hid hw
 have HP:=hid hP
 have HL:=hid hw.le
 clear hs hw hP
 have hstart:∃ c r1,P toks g 3 nest a .nilIface=some (c,r1)∧((r1=none∧b=c∧r=none)∨∃ x,r1=some x∧P toks g 5 nest c x=some (b,r)):=by
  rcases andP_cases h with ⟨c,h1,h2⟩ | ⟨c,x,h1,h2⟩
  · exact ⟨c,none,h1, .inl ⟨rfl,(Prod.mk.inj h2).1,(Prod.mk.inj h2).2⟩⟩
  · exact ⟨c,some x,h1, .inr ⟨x,rfl,h2⟩⟩
 obtain ⟨c,r1,h1,hr1⟩:=hstart
 have H1:=hid h1
 have HR:=hid hr1
 clear h h1 hr1
 go_enter Tryz.func184,Tryz.ntmps184
 go_wp2_with fail
 refine (HS.out g (Nat.le_refl _) pb tb cap nest a _ _ _ H1.out ha hnest HP.out).mono ?_
 rintro e w1 ⟨⟨v,rfl,hv,hx⟩,hP1,hb1,hF1⟩
 have HAT:Hid (∃ k,k≤g+1∧ChainAt toks pb tb cap nest b r w 5 k v (.bool r1.isSome) w1):=by
  refine hid ?_
  rcases HR.out with ⟨h1,h2,h3⟩ | ⟨x,h1,h2⟩
  · subst h1;subst h2;subst h3
    exact ⟨0,by omega,hv,hF1, .inr ⟨rfl,rfl,hb1,hP1⟩⟩
  · subst h1
    obtain rfl:=hx x rfl
    exact ⟨g+1,by omega,hv,hF1, .inl ⟨g,c,rfl,rfl,h2,hb1,hP1⟩⟩
 clear hP1 hF1 hx hv hb1 HR H1
 generalize r1.isSome=ok1 at HAT ⊢
 go_wp2
 obtain ⟨k1,hk1,hat⟩:=HAT.out
 have HA1:=hid hat
 clear hat HAT
 go_loopg [8,9] k1 (fun k lv okv wr=>k≤g+1∧ChainAt toks pb tb cap nest b r w 5 k lv okv wr)
 case atStart=>exact ⟨hk1,HA1.out⟩
 case round =>
  clear HA1 hk1
  obtain ⟨hk,hi,hF,hor⟩:=hrel
  have HF:=hid hF
  clear hF
  rcases hor with ⟨f,c2,rfl,rfl,hpf,hc2,hps⟩ | ⟨rfl,hr,hb,hps⟩
  · have HPS:=hid hps
    clear hps
    obtain ⟨f,rfl⟩:∃ f',f=f'+1:=by
     cases f with
     | zero=>simp [P] at hpf
     | succ f'=>exact ⟨f',rfl⟩
    simp only [P] at hpf
    cases ht:isT toks c2 [42] with
    | false =>
     rw [ht,if_neg (by simp)] at hpf
     have e1:=(Prod.mk.inj (Option.some.inj hpf)).1
     have e2:=(Prod.mk.inj (Option.some.inj hpf)).2
     have HT:Hid (eqB (tx toks c2) ⟨#[42]⟩=false):=hid ((isT_eqB toks c2 [42]).symm.trans ht)
     have HI:=hid hi
     subst e1;subst e2
     clear ht hpf hi
     go_wp2_with (go_at_call 143;go_must (refine (take_no toks pb tb cap _ nest _ _ HPS.out hc2 HT.out).mono ?_;rintro e w2 ⟨rfl,hP2,hF2⟩;have HP2:=hid hP2;have HF2:=hid hF2;clear hP2 hF2))
     go_ret2
     exact ⟨⟨_,rfl,HI.out,fun x h=>by cases h;rfl⟩,HP2.out,hc2,HF.out.trans HF2.out⟩
    | true =>
     rw [ht,if_pos rfl] at hpf
     have HT:Hid (eqB (tx toks c2) ⟨#[42]⟩=true):=hid ((isT_eqB toks c2 [42]).symm.trans ht)
     have HN:Hid (c2+1 < toks.length):=hid (HW.out.next_isT hc2 ht)
     clear ht
     rcases andP_cases hpf with ⟨d,h3,h4⟩ | ⟨d,y,h3,h4⟩
     · have e1:=(Prod.mk.inj h4).1
       have e2:=(Prod.mk.inj h4).2
       subst e1;subst e2
       have H3:=hid h3
       clear hpf h3 h4
       rcases hi with rfl | ⟨t1,y1,rfl⟩
       all_goals
        go_wp2_with (first
         | (go_at_call 143;go_must (refine (take_yes toks pb tb cap _ nest _ _ HPS.out hc2 HL.out HT.out).mono ?_;rintro e w2 ⟨rfl,hP2,hF2⟩;have HP2:=hid hP2;have HF2:=hid hF2;clear hP2 hF2))
         | (go_at_call 187;go_must (refine (HS.out f (by omega) pb tb cap nest _ _ _ _ H3.out HN.out hnest HP2.out).mono ?_;rintro e w3 ⟨⟨v3,rfl,hv3,_⟩,hP3,hb3,hF3⟩;have HP3:=hid hP3;have HF3:=hid hF3;have HV3:=hid hv3;clear hP3 hF3 hv3;rcases HV3.out with rfl | ⟨t3,y3,rfl⟩)))
       all_goals
        go_roundg 0
       all_goals first
        | omega
        | exact ⟨by omega, .inr ⟨_,_,rfl⟩,(HF.out.trans HF2.out).trans HF3.out, .inr ⟨rfl,rfl,hb3,HP3.out⟩⟩
     · have H3:=hid h3
       have H4:=hid h4
       clear hpf h3 h4
       rcases hi with rfl | ⟨t1,y1,rfl⟩
       all_goals
        go_wp2_with (first
         | (go_at_call 143;go_must (refine (take_yes toks pb tb cap _ nest _ _ HPS.out hc2 HL.out HT.out).mono ?_;rintro e w2 ⟨rfl,hP2,hF2⟩;have HP2:=hid hP2;have HF2:=hid hF2;clear hP2 hF2))
         | (go_at_call 187;go_must (refine (HS.out f (by omega) pb tb cap nest _ _ _ _ H3.out HN.out hnest HP2.out).mono ?_;rintro e w3 ⟨⟨v3,rfl,hv3,hx3⟩,hP3,hb3,hF3⟩;obtain rfl:=hx3 y rfl;have HP3:=hid hP3;have HF3:=hid hF3;have HV3:=hid hv3;clear hP3 hF3 hv3 hx3;rcases HV3.out with rfl | ⟨t3,y3,rfl⟩)))
       all_goals
        go_roundg (f+1)
       all_goals first
        | omega
        | exact ⟨by omega, .inr ⟨_,_,rfl⟩,(HF.out.trans HF2.out).trans HF3.out, .inl ⟨f,d,rfl,rfl,H4.out,hb3,HP3.out⟩⟩
  · have HPS:=hid hps
    have HI:=hid hi
    subst hr
    clear hps hi
    go_wp2
    go_ret2
    exact ⟨⟨_,rfl,HI.out,fun x h=>by cases h⟩,HPS.out,hb,HF.out⟩
theorem sum_ok {toks:List Tok} (hw:Wf toks) {g:Nat} (hs:∀ g',g'≤g→OK toks 185 2 g'):OK toks 174 1 (g+1):=by
 intro pb tb cap nest a b r w h ha hnest hP
 have HC:=hid (chain_plus hw hs pb tb cap nest a b r w (by simpa only [P] using h) ha hnest hP)
 clear hs hw hP h
 go_enter Tryz.func174,Tryz.ntmps174
 go_wp2_with fail
 refine HC.out.mono ?_
 rintro e w1 ⟨⟨v,rfl,hv,hx⟩,hP1,hb1,hF1⟩
 have HQ:=hid hP1
 have HF1:=hid hF1
 have HV:=hid hv
 have HX:=hid hx
 clear hP1 hF1 hv hx
 go_wp2
 go_ret2
 exact ⟨⟨v,rfl,HV.out,HX.out⟩,HQ.out,hb1,HF1.out⟩
theorem product_ok {toks:List Tok} (hw:Wf toks) {g:Nat} (hs:∀ g',g'≤g→OK toks 187 3 g'):OK toks 185 2 (g+1):=by
 intro pb tb cap nest a b r w h ha hnest hP
 have HC:=hid (chain_times hw hs pb tb cap nest a b r w (by simpa only [P] using h) ha hnest hP)
 clear hs hw hP h
 go_enter Tryz.func185,Tryz.ntmps185
 go_wp2_with fail
 refine HC.out.mono ?_
 rintro e w1 ⟨⟨v,rfl,hv,hx⟩,hP1,hb1,hF1⟩
 have HQ:=hid hP1
 have HF1:=hid hF1
 have HV:=hid hv
 have HX:=hid hx
 clear hP1 hF1 hv hx
 go_wp2
 go_ret2
 exact ⟨⟨v,rfl,HV.out,HX.out⟩,HQ.out,hb1,HF1.out⟩
theorem nneT {a b:Int} (h:a≠b):(a != b)=true:=by rw [bne_iff_ne];exact h
theorem nested_full_bracket (toks:List Tok) (pb tb cap a:Nat) (w:World) (hP:PS toks pb tb cap a 20 w.heap) (ha:a < toks.length) :
 Calls Tryz.prog 188 #[.pointer (some ⟨pb,0,none⟩), .func (Fn.func 189) #[.pointer (some ⟨pb,0,none⟩)] #[]] w (Post toks pb tb cap 20 a none w):=by
 have c2:=hP.c2
 have HP:=hid hP
 clear hP
 go_enter Tryz.func188,Tryz.ntmps188
 go_wp2
 go_ret2
 exact ⟨⟨_,rfl, .inl rfl,fun x h=>by cases h⟩,HP.out,ha,Fr.refl _ _⟩
theorem nested_bracket (toks:List Tok) (pb tb cap nest a b:Nat) (r:Option Value) (w:World) (hP:PS toks pb tb cap a nest w.heap) (hnest:nest < 20)
 (hF:∀ w',PS toks pb tb cap (a+1) (nest+1) w'.heap→Calls Tryz.prog 189 #[.pointer (some ⟨pb,0,none⟩)] w' (Post toks pb tb cap (nest+1) b r w')) (hl:a < 401) :
 Calls Tryz.prog 188 #[.pointer (some ⟨pb,0,none⟩), .func (Fn.func 189) #[.pointer (some ⟨pb,0,none⟩)] #[]] w (Post toks pb tb cap nest b r w):=by
 have c2:=hP.c2
 have c1:=hP.c1
 have f1:=hP.f 1
 have h1:=hP.at (a+1)
 rw [show ((a+1:Nat):Int)=(a:Int)+1 from by omega] at h1
 have d2:=h1.c2
 have g2:=h1.f 2
 have h2:=h1.nestAt (nest+1)
 rw [show ((nest+1:Nat):Int)=(nest:Int)+1 from by omega] at h2
 have H2:=hid h2
 have HF:=hid hF
 have hne:=nneT (show ((nest:Int))≠20 by omega)
 have hnf:=beqF (show ((nest:Int))≠20 by omega)
 have HW0:Hid (Fr [pb] w ((w.setCell ⟨pb,1,none⟩ (.int .i64 ((a:Int)+1))).setCell ⟨pb,2,none⟩ (.int .i64 ((nest:Int)+1)))) :=
  hid (((Fr.refl [pb] w).setCell ⟨pb,1,none⟩ (.inl (by simp)) _).setCell ⟨pb,2,none⟩ (.inl (by simp)) _)
 clear hP h1 h2 hF
 go_enter Tryz.func188,Tryz.ntmps188
 go_wp2_with fail
 refine (HF.out _ H2.out).mono ?_
 rintro e w1 ⟨⟨v,rfl,hv,hx⟩,hP1,hb1,hF1⟩
 have e2:=hP1.c2
 rw [show ((nest+1:Nat):Int)=(nest:Int)+1 from by omega] at e2
 have k2:=hP1.f 2
 have HP1:=hid (hP1.nestAt nest)
 have HF1:=hid ((HW0.out.trans hF1).setCell ⟨pb,2,none⟩ (.inl (by simp)) (.int .i64 nest))
 have HV:=hid hv
 have HX:=hid hx
 clear hP1 hF1 hv hx
 go_wp2
 go_ret2
 exact ⟨⟨v,rfl,HV.out,HX.out⟩,HP1.out,hb1,HF1.out⟩
theorem nested_full_choice (toks:List Tok) (pb tb cap a:Nat) (w:World) (hP:PS toks pb tb cap a 20 w.heap) (ha:a < toks.length) :
 Calls Tryz.prog 188 #[.pointer (some ⟨pb,0,none⟩), .func (Fn.func 190) #[.pointer (some ⟨pb,0,none⟩)] #[]] w (Post toks pb tb cap 20 a none w):=by
 have c2:=hP.c2
 have HP:=hid hP
 clear hP
 go_enter Tryz.func188,Tryz.ntmps188
 go_wp2
 go_ret2
 exact ⟨⟨_,rfl, .inl rfl,fun x h=>by cases h⟩,HP.out,ha,Fr.refl _ _⟩
theorem nested_choice (toks:List Tok) (pb tb cap nest a b:Nat) (r:Option Value) (w:World) (hP:PS toks pb tb cap a nest w.heap) (hnest:nest < 20)
 (hF:∀ w',PS toks pb tb cap (a+1) (nest+1) w'.heap→Calls Tryz.prog 190 #[.pointer (some ⟨pb,0,none⟩)] w' (Post toks pb tb cap (nest+1) b r w')) (hl:a < 401) :
 Calls Tryz.prog 188 #[.pointer (some ⟨pb,0,none⟩), .func (Fn.func 190) #[.pointer (some ⟨pb,0,none⟩)] #[]] w (Post toks pb tb cap nest b r w):=by
 have c2:=hP.c2
 have c1:=hP.c1
 have f1:=hP.f 1
 have h1:=hP.at (a+1)
 rw [show ((a+1:Nat):Int)=(a:Int)+1 from by omega] at h1
 have d2:=h1.c2
 have g2:=h1.f 2
 have h2:=h1.nestAt (nest+1)
 rw [show ((nest+1:Nat):Int)=(nest:Int)+1 from by omega] at h2
 have H2:=hid h2
 have HF:=hid hF
 have hne:=nneT (show ((nest:Int))≠20 by omega)
 have hnf:=beqF (show ((nest:Int))≠20 by omega)
 have HW0:Hid (Fr [pb] w ((w.setCell ⟨pb,1,none⟩ (.int .i64 ((a:Int)+1))).setCell ⟨pb,2,none⟩ (.int .i64 ((nest:Int)+1)))) :=
  hid (((Fr.refl [pb] w).setCell ⟨pb,1,none⟩ (.inl (by simp)) _).setCell ⟨pb,2,none⟩ (.inl (by simp)) _)
 clear hP h1 h2 hF
 go_enter Tryz.func188,Tryz.ntmps188
 go_wp2_with fail
 refine (HF.out _ H2.out).mono ?_
 rintro e w1 ⟨⟨v,rfl,hv,hx⟩,hP1,hb1,hF1⟩
 have e2:=hP1.c2
 rw [show ((nest+1:Nat):Int)=(nest:Int)+1 from by omega] at e2
 have k2:=hP1.f 2
 have HP1:=hid (hP1.nestAt nest)
 have HF1:=hid ((HW0.out.trans hF1).setCell ⟨pb,2,none⟩ (.inl (by simp)) (.int .i64 nest))
 have HV:=hid hv
 have HX:=hid hx
 clear hP1 hF1 hv hx
 go_wp2
 go_ret2
 exact ⟨⟨v,rfl,HV.out,HX.out⟩,HP1.out,hb1,HF1.out⟩
theorem bracket_ok {toks:List Tok} (hw:Wf toks) {g:Nat} (hs:OK toks 157 0 g) (pb tb cap nest a b:Nat) (r:Option Value) (w:World)
 (h:andP (P toks g 0 nest a .nilIface) (fun b x=>if isT toks b [41] then some (b+1,some x) else some (b,none))=some (b,r)) (ha:a < toks.length) (hnest:nest≤20) (hP:PS toks pb tb cap a nest w.heap) :
 Calls Tryz.prog 189 #[.pointer (some ⟨pb,0,none⟩)] w (Post toks pb tb cap nest b r w):=by
 have HS:=hid hs
 have HW:=hid hw
 have HP:=hid hP
 have HL:=hid hw.le
 clear hs hw hP
 rcases andP_cases h with ⟨c,h1,h2⟩ | ⟨c,x,h1,h2⟩
 · have e1:=(Prod.mk.inj h2).1
   have e2:=(Prod.mk.inj h2).2
   subst e1;subst e2
   have H1:=hid h1
   clear h h1 h2
   go_enter Tryz.func189,Tryz.ntmps189
   go_wp2_with fail
   refine (HS.out pb tb cap nest a _ _ _ H1.out ha hnest HP.out).mono ?_
   rintro e w1 ⟨⟨v,rfl,hv,_⟩,hP1,hb1,hF1⟩
   have HP1:=hid hP1
   have HF1:=hid hF1
   have HV:=hid hv
   clear hP1 hF1 hv
   go_wp2
   go_ret2
   exact ⟨⟨v,rfl,HV.out,fun x h=>by cases h⟩,HP1.out,hb1,HF1.out⟩
 have H1:=hid h1
 clear h h1
 cases ht:isT toks c [41] with
 | false =>
  rw [ht,if_neg (by simp)] at h2
  have e1:=(Prod.mk.inj (Option.some.inj h2)).1
  have e2:=(Prod.mk.inj (Option.some.inj h2)).2
  subst e1;subst e2
  have HT:Hid (eqB (tx toks c) ⟨#[41]⟩=false):=hid ((isT_eqB toks c [41]).symm.trans ht)
  clear ht h2
  go_enter Tryz.func189,Tryz.ntmps189
  go_wp2_with fail
  refine (HS.out pb tb cap nest a _ _ _ H1.out ha hnest HP.out).mono ?_
  rintro e w1 ⟨⟨v,rfl,hv,hx⟩,hP1,hb1,hF1⟩
  have HP1:=hid hP1
  have HF1:=hid hF1
  have HV:=hid hv
  clear hP1 hF1 hv hx
  go_wp2_with (go_at_call 143;go_must (refine (take_no toks pb tb cap _ nest _ _ HP1.out hb1 HT.out).mono ?_;rintro e w2 ⟨rfl,hP2,hF2⟩;have HP2:=hid hP2;have HF2:=hid hF2;clear hP2 hF2))
  go_ret2
  exact ⟨⟨v,rfl,HV.out,fun x h=>by cases h⟩,HP2.out,hb1,HF1.out.trans HF2.out⟩
 | true =>
  rw [ht,if_pos rfl] at h2
  have e1:=(Prod.mk.inj (Option.some.inj h2)).1
  have e2:=(Prod.mk.inj (Option.some.inj h2)).2
  subst e1;subst e2
  have HT:Hid (eqB (tx toks c) ⟨#[41]⟩=true):=hid ((isT_eqB toks c [41]).symm.trans ht)
  have HN:Hid (c < toks.length→c+1 < toks.length):=hid fun hc=>HW.out.next_isT hc ht
  clear ht h2
  go_enter Tryz.func189,Tryz.ntmps189
  go_wp2_with fail
  refine (HS.out pb tb cap nest a _ _ _ H1.out ha hnest HP.out).mono ?_
  rintro e w1 ⟨⟨v,rfl,hv,hx⟩,hP1,hb1,hF1⟩
  have HP1:=hid hP1
  have HF1:=hid hF1
  have HV:=hid hv
  have HX:=hid hx
  clear hP1 hF1 hv hx
  go_wp2_with (go_at_call 143;go_must (refine (take_yes toks pb tb cap _ nest _ _ HP1.out hb1 HL.out HT.out).mono ?_;rintro e w2 ⟨rfl,hP2,hF2⟩;have HP2:=hid hP2;have HF2:=hid hF2;clear hP2 hF2))
  go_ret2
  exact ⟨⟨v,rfl,HV.out,HX.out⟩,HP2.out,HN.out hb1,HF1.out.trans HF2.out⟩
end Go.Proofs.YthibodlojlkppaaGreatDoor

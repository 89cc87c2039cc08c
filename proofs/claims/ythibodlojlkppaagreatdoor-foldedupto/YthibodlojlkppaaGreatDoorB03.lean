/-
  The parser: choice. The parser: atom. The parser: atom. The parser: all of an expr, and fuel enough.
-/
import Derived.Test.YthibodlojlkppaaGreatDoorB02
import Derived.Test.YthibodlojlkppaaGreatDoorShelf
import Derived.Lib.AtoiErrMem
set_option linter.unusedVariables false
set_option linter.unusedSectionVars false
set_option linter.unusedSimpArgs false
set_option maxRecDepth 100000
set_option maxHeartbeats 40000000

namespace Go.Proofs.YthibodlojlkppaaGreatDoor
open Go.RowKit
structure CS (toks:List Tok) (pb tb cap nest:Nat) (w wr:World) (c:Nat) (x y z:Value):Prop where
 pl:pb < w.heap.size
 tl:tb < w.heap.size
 ps:PS toks pb tb cap c nest wr.heap
 fr:Fr [pb] w wr
 ch:wr.heap[w.heap.size]? = some (.cells #[x,y,z] 293)
theorem CS.new {toks:List Tok} {pb tb cap nest c:Nat} {w:World} (h:PS toks pb tb cap c nest w.heap):CS toks pb tb cap nest w (w.alloc (.cells #[.nilIface, .nilIface, .nilIface] 293)) c .nilIface .nilIface .nilIface:=by
 have h0:=h.t
 obtain ⟨cur,hc,_⟩:=h0
 exact ⟨heap_lt h.p,heap_lt hc,h.below ((Below.refl _ _).alloc (Nat.le_refl _) _),(Fr.refl _ _).alloc _,new_heap _ _⟩
theorem CS.call {toks:List Tok} {pb tb cap nest c d:Nat} {w wr w':World} {x y z:Value} (h:CS toks pb tb cap nest w wr c x y z) (hf:Fr [pb] wr w') (hp:PS toks pb tb cap d nest w'.heap):CS toks pb tb cap nest w w' d x y z :=
 ⟨h.pl,h.tl,hp,h.fr.trans hf,hf.heap h.ch (by have:=h.pl;simp;omega)⟩
theorem PS.other {toks:List Tok} {pb tb cap a nest:Nat} {w:World} (h:PS toks pb tb cap a nest w.heap) {b i:Nat} (h1:b≠pb) (h2:b≠tb) (v:Value):PS toks pb tb cap a nest (w.setCell ⟨b,i,none⟩ v).heap:=by
 obtain ⟨cur,hc,ht⟩:=h.t
 exact ⟨h.ne,(heap_setCell_ne (Ne.symm h1) _).trans h.p,cur,(heap_setCell_ne (Ne.symm h2) _).trans hc,ht⟩
theorem CS.set0 {toks:List Tok} {pb tb cap nest c:Nat} {w wr:World} {x y z:Value} (h:CS toks pb tb cap nest w wr c x y z) (v:Value):CS toks pb tb cap nest w (wr.setCell ⟨w.heap.size,0,none⟩ v) c v y z :=
 ⟨h.pl,h.tl,h.ps.other (by have:=h.pl;omega) (by have:=h.tl;omega) v,h.fr.setCell _ (.inr (Nat.le_refl _)) _,heap_setCell_lit (i:=0) h.ch v⟩
theorem CS.set1 {toks:List Tok} {pb tb cap nest c:Nat} {w wr:World} {x y z:Value} (h:CS toks pb tb cap nest w wr c x y z) (v:Value):CS toks pb tb cap nest w (wr.setCell ⟨w.heap.size,1,none⟩ v) c x v z :=
 ⟨h.pl,h.tl,h.ps.other (by have:=h.pl;omega) (by have:=h.tl;omega) v,h.fr.setCell _ (.inr (Nat.le_refl _)) _,heap_setCell_lit (i:=1) h.ch v⟩
theorem CS.set2 {toks:List Tok} {pb tb cap nest c:Nat} {w wr:World} {x y z:Value} (h:CS toks pb tb cap nest w wr c x y z) (v:Value):CS toks pb tb cap nest w (wr.setCell ⟨w.heap.size,2,none⟩ v) c x y v :=
 ⟨h.pl,h.tl,h.ps.other (by have:=h.pl;omega) (by have:=h.tl;omega) v,h.fr.setCell _ (.inr (Nat.le_refl _)) _,heap_setCell_lit (i:=2) h.ch v⟩
theorem CS.c0 {toks:List Tok} {pb tb cap nest c:Nat} {w wr:World} {x y z:Value} (h:CS toks pb tb cap nest w wr c x y z):wr.cell? ⟨w.heap.size,0,none⟩=some x:=heap_cell h.ch
theorem CS.c1 {toks:List Tok} {pb tb cap nest c:Nat} {w wr:World} {x y z:Value} (h:CS toks pb tb cap nest w wr c x y z):wr.cell? ⟨w.heap.size,1,none⟩=some y:=heap_cell h.ch
theorem CS.c2 {toks:List Tok} {pb tb cap nest c:Nat} {w wr:World} {x y z:Value} (h:CS toks pb tb cap nest w wr c x y z):wr.cell? ⟨w.heap.size,2,none⟩=some z:=heap_cell h.ch
theorem CS.f {toks:List Tok} {pb tb cap nest c:Nat} {w wr:World} {x y z:Value} (h:CS toks pb tb cap nest w wr c x y z) (i:Nat):wr.frozen? ⟨w.heap.size,i,none⟩=false:=heap_frozen h.ch
def IfcS (v:Value):Prop:=∃ t y,v = .iface t y
theorem leafV_ifcS {t:ByteArray} {v:Value} (h:leafV t=some v):IfcS v:=by
 unfold leafV at h
 split at h
 · cases h;exact ⟨_,_,rfl⟩
 · split at h
   · cases h;exact ⟨_,_,rfl⟩
   · split at h
     · cases h;exact ⟨_,_,rfl⟩
     · cases h
theorem andP_some {p:PR} {k:Nat→Value→PR} {b:Nat} {y:Value} (h:andP p k=some (b,some y)):∃ c x,p=some (c,some x)∧k c x=some (b,some y):=by
 rcases andP_cases h with ⟨c,_,h2⟩ | h2
 · cases h2
 · exact h2
theorem P_iface (toks:List Tok):∀ (f tag nest a:Nat) (acc:Value) (b:Nat) (x:Value),P toks f tag nest a acc=some (b,some x)→(tag≤3∨IfcS acc)→IfcS x:=by
 intro f
 induction f with
 | zero=>intro tag nest a acc b x h;simp [P] at h
 | succ f ih =>
  intro tag nest a acc b x h hacc
  match tag,h,hacc with
  | 0,h,_ =>
   simp only [P] at h
   obtain ⟨c,y,h1,h2⟩:=andP_some h
   split at h2
   · obtain ⟨d,z,h3,h4⟩:=andP_some h2
     cases h4;exact ⟨_,_,rfl⟩
   · cases h2;exact ih _ _ _ _ _ _ h1 (.inl (by omega))
  | 1,h,_ =>
   simp only [P] at h
   obtain ⟨c,y,h1,h2⟩:=andP_some h
   exact ih _ _ _ _ _ _ h2 (.inr (ih _ _ _ _ _ _ h1 (.inl (by omega))))
  | 2,h,_ =>
   simp only [P] at h
   obtain ⟨c,y,h1,h2⟩:=andP_some h
   exact ih _ _ _ _ _ _ h2 (.inr (ih _ _ _ _ _ _ h1 (.inl (by omega))))
  | 3,h,_ =>
   simp only [P] at h
   split at h
   · split at h
     · cases h
     · obtain ⟨c,y,h1,h2⟩:=andP_some h
       split at h2
       · cases h2;exact ih _ _ _ _ _ _ h1 (.inl (by omega))
       · cases h2
   · split at h
     · split at h
       · cases h
       · obtain ⟨c,y,h1,h2⟩:=andP_some h
         split at h2
         · obtain ⟨d,z,h3,h4⟩:=andP_some h2
           split at h4
           · obtain ⟨d,z,h5,h6⟩:=andP_some h4
             split at h6
             · cases h6;exact ⟨_,_,rfl⟩
             · cases h6
           · cases h4
         · cases h2
     · split at h
       · rename_i v hv
         cases h;exact leafV_ifcS hv
       · cases h
  | 4,h,hacc =>
   simp only [P] at h
   split at h
   · obtain ⟨c,y,h1,h2⟩:=andP_some h
     exact ih _ _ _ _ _ _ h2 (.inr ⟨_,_,rfl⟩)
   · cases h;exact hacc.resolve_left (by omega)
  | n+5,h,hacc =>
   simp only [P] at h
   split at h
   · obtain ⟨c,y,h1,h2⟩:=andP_some h
     exact ih _ _ _ _ _ _ h2 (.inr ⟨_,_,rfl⟩)
   · cases h;exact hacc.resolve_left (by omega)
theorem choice_ok {toks:List Tok} (hw:Wf toks) {g:Nat} (hs:OK toks 157 0 g) (pb tb cap nest a b:Nat) (r:Option Value) (w:World)
 (h:andP (P toks g 0 nest a .nilIface) (fun b x =>
   if isT toks b [116,104,101,110] then andP (P toks g 0 nest (b+1) .nilIface) fun c y =>
    if isT toks c [101,108,115,101] then andP (P toks g 0 nest (c+1) .nilIface) fun d z =>
     if isT toks d [101,110,100] then some (d+1,some (mkChoice x y z)) else some (d,none)
    else some (c,none)
   else some (b,none))=some (b,r)) (ha:a < toks.length) (hnest:nest≤20) (hP:PS toks pb tb cap a nest w.heap) :
 Calls Tryz.prog 190 #[.pointer (some ⟨pb,0,none⟩)] w (Post toks pb tb cap nest b r w):=by
 have HS:=hid hs
 have HW:=hid hw
 have HL:=hid hw.le
 have HC0:=hid (CS.new hP)
 clear hs hw hP
 rcases andP_cases h with ⟨c0,h1,h2⟩ | ⟨c0,x,h1,h2⟩
 · have e1:=(Prod.mk.inj h2).1
   have e2:=(Prod.mk.inj h2).2
   subst e1;subst e2
   have H0:=hid h1
   clear h h1 h2
   go_enter Tryz.func190,Tryz.ntmps190
   go_wp2_with fail
   refine (HS.out pb tb cap nest _ _ _ _ H0.out ha hnest HC0.out.ps).mono ?_
   rintro e w0a ⟨⟨v0,rfl,hv,hx⟩,hP1,hb0,hF1⟩
   have hc1:=HC0.out.call hF1 hP1
   have f0:=hc1.f 0
   have q0:=hc1.c0
   have HC0s:=hid (fun v=>hc1.set0 v)
   clear hP1 hF1 hx hc1
   rcases hv with rfl | ⟨t,y,rfl⟩
   all_goals
    go_wp2
    go_ret2
    exact ⟨⟨_,rfl, .inl rfl,fun x h=>by cases h⟩,(HC0s.out _).ps,hb0,(HC0s.out _).fr⟩
 have H0:=hid h1
 have I0:=hid (P_iface toks _ _ _ _ _ _ _ h1 (.inl (by omega)))
 clear h h1
 cases ht:isT toks c0 [116,104,101,110] with
 | false =>
  rw [ht,if_neg (by simp)] at h2
  have e1:=(Prod.mk.inj (Option.some.inj h2)).1
  have e2:=(Prod.mk.inj (Option.some.inj h2)).2
  subst e1;subst e2
  have HT0:Hid (eqB (tx toks c0) ⟨#[116,104,101,110]⟩=false):=hid ((isT_eqB toks c0 [116,104,101,110]).symm.trans ht)
  clear ht h2
  go_enter Tryz.func190,Tryz.ntmps190
  go_wp2_with fail
  refine (HS.out pb tb cap nest _ _ _ _ H0.out ha hnest HC0.out.ps).mono ?_
  rintro e w0a ⟨⟨v0,rfl,hv,hx⟩,hP1,hb0,hF1⟩
  obtain rfl:=hx _ rfl
  obtain ⟨t0,y0,rfl⟩:=I0.out
  have hc1:=HC0.out.call hF1 hP1
  have f0:=hc1.f 0
  have q0:=hc1.c0
  have HC0s:=hid (hc1.set0 (.iface t0 y0))
  clear hP1 hF1 hx hv hc1
  go_wp2_with fail
  refine (take_no toks pb tb cap _ nest _ _ HC0s.out.ps hb0 HT0.out).mono ?_
  rintro e w0b ⟨rfl,hP2,hF2⟩
  have HC0t:=hid (HC0s.out.call hF2 hP2)
  clear hP2 hF2
  go_wp2
  go_ret2
  exact ⟨⟨_,rfl, .inl rfl,fun x h=>by cases h⟩,HC0t.out.ps,hb0,HC0t.out.fr⟩
 | true =>
  rw [ht,if_pos rfl] at h2
  have HT0:Hid (eqB (tx toks c0) ⟨#[116,104,101,110]⟩=true):=hid ((isT_eqB toks c0 [116,104,101,110]).symm.trans ht)
  have HN0:Hid (c0 < toks.length→c0+1 < toks.length):=hid fun hc=>HW.out.next_isT hc ht
  clear ht
  have h:=h2
  clear h2
  rcases andP_cases h with ⟨c1,h1,h2⟩ | ⟨c1,y,h1,h2⟩
  · have e1:=(Prod.mk.inj h2).1
    have e2:=(Prod.mk.inj h2).2
    subst e1;subst e2
    have H1:=hid h1
    clear h h1 h2
    go_enter Tryz.func190,Tryz.ntmps190
    go_wp2_with fail
    refine (HS.out pb tb cap nest _ _ _ _ H0.out ha hnest HC0.out.ps).mono ?_
    rintro e w0a ⟨⟨v0,rfl,hv,hx⟩,hP1,hb0,hF1⟩
    obtain rfl:=hx _ rfl
    obtain ⟨t0,y0,rfl⟩:=I0.out
    have hc1:=HC0.out.call hF1 hP1
    have f0:=hc1.f 0
    have q0:=hc1.c0
    have HC0s:=hid (hc1.set0 (.iface t0 y0))
    clear hP1 hF1 hx hv hc1
    go_wp2_with fail
    refine (take_yes toks pb tb cap _ nest _ _ HC0s.out.ps hb0 HL.out HT0.out).mono ?_
    rintro e w0b ⟨rfl,hP2,hF2⟩
    have HC0t:=hid (HC0s.out.call hF2 hP2)
    clear hP2 hF2
    go_wp2_with fail
    refine (HS.out pb tb cap nest _ _ _ _ H1.out (HN0.out hb0) hnest HC0t.out.ps).mono ?_
    rintro e w1a ⟨⟨v1,rfl,hv,hx⟩,hP1,hb1,hF1⟩
    have hc1:=HC0t.out.call hF1 hP1
    have f0:=hc1.f 1
    have q0:=hc1.c1
    have HC1s:=hid (fun v=>hc1.set1 v)
    clear hP1 hF1 hx hc1
    rcases hv with rfl | ⟨t,y,rfl⟩
    all_goals
     go_wp2
     go_ret2
     exact ⟨⟨_,rfl, .inl rfl,fun x h=>by cases h⟩,(HC1s.out _).ps,hb1,(HC1s.out _).fr⟩
  have H1:=hid h1
  have I1:=hid (P_iface toks _ _ _ _ _ _ _ h1 (.inl (by omega)))
  clear h h1
  cases ht:isT toks c1 [101,108,115,101] with
  | false =>
   rw [ht,if_neg (by simp)] at h2
   have e1:=(Prod.mk.inj (Option.some.inj h2)).1
   have e2:=(Prod.mk.inj (Option.some.inj h2)).2
   subst e1;subst e2
   have HT1:Hid (eqB (tx toks c1) ⟨#[101,108,115,101]⟩=false):=hid ((isT_eqB toks c1 [101,108,115,101]).symm.trans ht)
   clear ht h2
   go_enter Tryz.func190,Tryz.ntmps190
   go_wp2_with fail
   refine (HS.out pb tb cap nest _ _ _ _ H0.out ha hnest HC0.out.ps).mono ?_
   rintro e w0a ⟨⟨v0,rfl,hv,hx⟩,hP1,hb0,hF1⟩
   obtain rfl:=hx _ rfl
   obtain ⟨t0,y0,rfl⟩:=I0.out
   have hc1:=HC0.out.call hF1 hP1
   have f0:=hc1.f 0
   have q0:=hc1.c0
   have HC0s:=hid (hc1.set0 (.iface t0 y0))
   clear hP1 hF1 hx hv hc1
   go_wp2_with fail
   refine (take_yes toks pb tb cap _ nest _ _ HC0s.out.ps hb0 HL.out HT0.out).mono ?_
   rintro e w0b ⟨rfl,hP2,hF2⟩
   have HC0t:=hid (HC0s.out.call hF2 hP2)
   clear hP2 hF2
   go_wp2_with fail
   refine (HS.out pb tb cap nest _ _ _ _ H1.out (HN0.out hb0) hnest HC0t.out.ps).mono ?_
   rintro e w1a ⟨⟨v1,rfl,hv,hx⟩,hP1,hb1,hF1⟩
   obtain rfl:=hx _ rfl
   obtain ⟨t1,y1,rfl⟩:=I1.out
   have hc1:=HC0t.out.call hF1 hP1
   have f0:=hc1.f 1
   have q0:=hc1.c1
   have HC1s:=hid (hc1.set1 (.iface t1 y1))
   clear hP1 hF1 hx hv hc1
   go_wp2_with fail
   refine (take_no toks pb tb cap _ nest _ _ HC1s.out.ps hb1 HT1.out).mono ?_
   rintro e w1b ⟨rfl,hP2,hF2⟩
   have HC1t:=hid (HC1s.out.call hF2 hP2)
   clear hP2 hF2
   go_wp2
   go_ret2
   exact ⟨⟨_,rfl, .inl rfl,fun x h=>by cases h⟩,HC1t.out.ps,hb1,HC1t.out.fr⟩
  | true =>
   rw [ht,if_pos rfl] at h2
   have HT1:Hid (eqB (tx toks c1) ⟨#[101,108,115,101]⟩=true):=hid ((isT_eqB toks c1 [101,108,115,101]).symm.trans ht)
   have HN1:Hid (c1 < toks.length→c1+1 < toks.length):=hid fun hc=>HW.out.next_isT hc ht
   clear ht
   have h:=h2
   clear h2
   rcases andP_cases h with ⟨c2,h1,h2⟩ | ⟨c2,z,h1,h2⟩
   · have e1:=(Prod.mk.inj h2).1
     have e2:=(Prod.mk.inj h2).2
     subst e1;subst e2
     have H2:=hid h1
     clear h h1 h2
     go_enter Tryz.func190,Tryz.ntmps190
     go_wp2_with fail
     refine (HS.out pb tb cap nest _ _ _ _ H0.out ha hnest HC0.out.ps).mono ?_
     rintro e w0a ⟨⟨v0,rfl,hv,hx⟩,hP1,hb0,hF1⟩
     obtain rfl:=hx _ rfl
     obtain ⟨t0,y0,rfl⟩:=I0.out
     have hc1:=HC0.out.call hF1 hP1
     have f0:=hc1.f 0
     have q0:=hc1.c0
     have HC0s:=hid (hc1.set0 (.iface t0 y0))
     clear hP1 hF1 hx hv hc1
     go_wp2_with fail
     refine (take_yes toks pb tb cap _ nest _ _ HC0s.out.ps hb0 HL.out HT0.out).mono ?_
     rintro e w0b ⟨rfl,hP2,hF2⟩
     have HC0t:=hid (HC0s.out.call hF2 hP2)
     clear hP2 hF2
     go_wp2_with fail
     refine (HS.out pb tb cap nest _ _ _ _ H1.out (HN0.out hb0) hnest HC0t.out.ps).mono ?_
     rintro e w1a ⟨⟨v1,rfl,hv,hx⟩,hP1,hb1,hF1⟩
     obtain rfl:=hx _ rfl
     obtain ⟨t1,y1,rfl⟩:=I1.out
     have hc1:=HC0t.out.call hF1 hP1
     have f0:=hc1.f 1
     have q0:=hc1.c1
     have HC1s:=hid (hc1.set1 (.iface t1 y1))
     clear hP1 hF1 hx hv hc1
     go_wp2_with fail
     refine (take_yes toks pb tb cap _ nest _ _ HC1s.out.ps hb1 HL.out HT1.out).mono ?_
     rintro e w1b ⟨rfl,hP2,hF2⟩
     have HC1t:=hid (HC1s.out.call hF2 hP2)
     clear hP2 hF2
     go_wp2_with fail
     refine (HS.out pb tb cap nest _ _ _ _ H2.out (HN1.out hb1) hnest HC1t.out.ps).mono ?_
     rintro e w2a ⟨⟨v2,rfl,hv,hx⟩,hP1,hb2,hF1⟩
     have hc1:=HC1t.out.call hF1 hP1
     have f0:=hc1.f 2
     have q0:=hc1.c2
     have HC2s:=hid (fun v=>hc1.set2 v)
     clear hP1 hF1 hx hc1
     rcases hv with rfl | ⟨t,y,rfl⟩
     all_goals
      go_wp2
      go_ret2
      exact ⟨⟨_,rfl, .inl rfl,fun x h=>by cases h⟩,(HC2s.out _).ps,hb2,(HC2s.out _).fr⟩
   have H2:=hid h1
   have I2:=hid (P_iface toks _ _ _ _ _ _ _ h1 (.inl (by omega)))
   clear h h1
   cases ht:isT toks c2 [101,110,100] with
   | false =>
    rw [ht,if_neg (by simp)] at h2
    have e1:=(Prod.mk.inj (Option.some.inj h2)).1
    have e2:=(Prod.mk.inj (Option.some.inj h2)).2
    subst e1;subst e2
    have HT2:Hid (eqB (tx toks c2) ⟨#[101,110,100]⟩=false):=hid ((isT_eqB toks c2 [101,110,100]).symm.trans ht)
    clear ht h2
    go_enter Tryz.func190,Tryz.ntmps190
    go_wp2_with fail
    refine (HS.out pb tb cap nest _ _ _ _ H0.out ha hnest HC0.out.ps).mono ?_
    rintro e w0a ⟨⟨v0,rfl,hv,hx⟩,hP1,hb0,hF1⟩
    obtain rfl:=hx _ rfl
    obtain ⟨t0,y0,rfl⟩:=I0.out
    have hc1:=HC0.out.call hF1 hP1
    have f0:=hc1.f 0
    have q0:=hc1.c0
    have HC0s:=hid (hc1.set0 (.iface t0 y0))
    clear hP1 hF1 hx hv hc1
    go_wp2_with fail
    refine (take_yes toks pb tb cap _ nest _ _ HC0s.out.ps hb0 HL.out HT0.out).mono ?_
    rintro e w0b ⟨rfl,hP2,hF2⟩
    have HC0t:=hid (HC0s.out.call hF2 hP2)
    clear hP2 hF2
    go_wp2_with fail
    refine (HS.out pb tb cap nest _ _ _ _ H1.out (HN0.out hb0) hnest HC0t.out.ps).mono ?_
    rintro e w1a ⟨⟨v1,rfl,hv,hx⟩,hP1,hb1,hF1⟩
    obtain rfl:=hx _ rfl
    obtain ⟨t1,y1,rfl⟩:=I1.out
    have hc1:=HC0t.out.call hF1 hP1
    have f0:=hc1.f 1
    have q0:=hc1.c1
    have HC1s:=hid (hc1.set1 (.iface t1 y1))
    clear hP1 hF1 hx hv hc1
    go_wp2_with fail
    refine (take_yes toks pb tb cap _ nest _ _ HC1s.out.ps hb1 HL.out HT1.out).mono ?_
    rintro e w1b ⟨rfl,hP2,hF2⟩
    have HC1t:=hid (HC1s.out.call hF2 hP2)
    clear hP2 hF2
    go_wp2_with fail
    refine (HS.out pb tb cap nest _ _ _ _ H2.out (HN1.out hb1) hnest HC1t.out.ps).mono ?_
    rintro e w2a ⟨⟨v2,rfl,hv,hx⟩,hP1,hb2,hF1⟩
    obtain rfl:=hx _ rfl
    obtain ⟨t2,y2,rfl⟩:=I2.out
    have hc1:=HC1t.out.call hF1 hP1
    have f0:=hc1.f 2
    have q0:=hc1.c2
    have HC2s:=hid (hc1.set2 (.iface t2 y2))
    clear hP1 hF1 hx hv hc1
    have d0:(w2a.setCell ⟨w.heap.size,2,none⟩ (.iface t2 y2)).drew.cell? ⟨w.heap.size,0,none⟩=some (.iface t0 y0):=HC2s.out.c0
    have d1:(w2a.setCell ⟨w.heap.size,2,none⟩ (.iface t2 y2)).drew.cell? ⟨w.heap.size,1,none⟩=some (.iface t1 y1):=HC2s.out.c1
    have d2:(w2a.setCell ⟨w.heap.size,2,none⟩ (.iface t2 y2)).drew.cell? ⟨w.heap.size,2,none⟩=some (.iface t2 y2):=HC2s.out.c2
    go_wp2_with fail
    go_region_with (go_at_call 143;go_must (refine (take_no toks pb tb cap _ nest _ _ ?hps hb2 HT2.out).mono ?_;(case hps=>exact HC2s.out.ps);rintro e w2b ⟨rfl,hP2,hF2⟩;have hc2:=HC2s.out.call ((Fr.refl _ _).drew.trans hF2) hP2;have g0:=hc2.c0;have g1:=hc2.c1;have g2:=hc2.c2;have HC2t:=hid hc2;clear hP2 hF2 hc2))
    all_goals
     go_wp2
     go_ret2
     exact ⟨⟨_,rfl, .inr ⟨_,_,rfl⟩,fun x h=>by cases h⟩,HC2t.out.ps,hb2,HC2t.out.fr⟩
   | true =>
    rw [ht,if_pos rfl] at h2
    have HT2:Hid (eqB (tx toks c2) ⟨#[101,110,100]⟩=true):=hid ((isT_eqB toks c2 [101,110,100]).symm.trans ht)
    have HN2:Hid (c2 < toks.length→c2+1 < toks.length):=hid fun hc=>HW.out.next_isT hc ht
    clear ht
    have h:=h2
    clear h2
    have e1:=(Prod.mk.inj (Option.some.inj h)).1
    have e2:=(Prod.mk.inj (Option.some.inj h)).2
    subst e1;subst e2
    clear h
    go_enter Tryz.func190,Tryz.ntmps190
    go_wp2_with fail
    refine (HS.out pb tb cap nest _ _ _ _ H0.out ha hnest HC0.out.ps).mono ?_
    rintro e w0a ⟨⟨v0,rfl,hv,hx⟩,hP1,hb0,hF1⟩
    obtain rfl:=hx _ rfl
    obtain ⟨t0,y0,rfl⟩:=I0.out
    have hc1:=HC0.out.call hF1 hP1
    have f0:=hc1.f 0
    have q0:=hc1.c0
    have HC0s:=hid (hc1.set0 (.iface t0 y0))
    clear hP1 hF1 hx hv hc1
    go_wp2_with fail
    refine (take_yes toks pb tb cap _ nest _ _ HC0s.out.ps hb0 HL.out HT0.out).mono ?_
    rintro e w0b ⟨rfl,hP2,hF2⟩
    have HC0t:=hid (HC0s.out.call hF2 hP2)
    clear hP2 hF2
    go_wp2_with fail
    refine (HS.out pb tb cap nest _ _ _ _ H1.out (HN0.out hb0) hnest HC0t.out.ps).mono ?_
    rintro e w1a ⟨⟨v1,rfl,hv,hx⟩,hP1,hb1,hF1⟩
    obtain rfl:=hx _ rfl
    obtain ⟨t1,y1,rfl⟩:=I1.out
    have hc1:=HC0t.out.call hF1 hP1
    have f0:=hc1.f 1
    have q0:=hc1.c1
    have HC1s:=hid (hc1.set1 (.iface t1 y1))
    clear hP1 hF1 hx hv hc1
    go_wp2_with fail
    refine (take_yes toks pb tb cap _ nest _ _ HC1s.out.ps hb1 HL.out HT1.out).mono ?_
    rintro e w1b ⟨rfl,hP2,hF2⟩
    have HC1t:=hid (HC1s.out.call hF2 hP2)
    clear hP2 hF2
    go_wp2_with fail
    refine (HS.out pb tb cap nest _ _ _ _ H2.out (HN1.out hb1) hnest HC1t.out.ps).mono ?_
    rintro e w2a ⟨⟨v2,rfl,hv,hx⟩,hP1,hb2,hF1⟩
    obtain rfl:=hx _ rfl
    obtain ⟨t2,y2,rfl⟩:=I2.out
    have hc1:=HC1t.out.call hF1 hP1
    have f0:=hc1.f 2
    have q0:=hc1.c2
    have HC2s:=hid (hc1.set2 (.iface t2 y2))
    clear hP1 hF1 hx hv hc1
    have d0:(w2a.setCell ⟨w.heap.size,2,none⟩ (.iface t2 y2)).drew.cell? ⟨w.heap.size,0,none⟩=some (.iface t0 y0):=HC2s.out.c0
    have d1:(w2a.setCell ⟨w.heap.size,2,none⟩ (.iface t2 y2)).drew.cell? ⟨w.heap.size,1,none⟩=some (.iface t1 y1):=HC2s.out.c1
    have d2:(w2a.setCell ⟨w.heap.size,2,none⟩ (.iface t2 y2)).drew.cell? ⟨w.heap.size,2,none⟩=some (.iface t2 y2):=HC2s.out.c2
    go_wp2_with fail
    go_region_with (go_at_call 143;go_must (refine (take_yes toks pb tb cap _ nest _ _ ?hps hb2 HL.out HT2.out).mono ?_;(case hps=>exact HC2s.out.ps);rintro e w2b ⟨rfl,hP2,hF2⟩;have hc2:=HC2s.out.call ((Fr.refl _ _).drew.trans hF2) hP2;have g0:=hc2.c0;have g1:=hc2.c1;have g2:=hc2.c2;have HC2t:=hid hc2;clear hP2 hF2 hc2))
    all_goals
     go_wp2
     go_ret2
     exact ⟨⟨_,rfl, .inr ⟨_,_,rfl⟩,fun x h=>by cases h;rfl⟩,HC2t.out.ps,HN2.out hb2,HC2t.out.fr⟩
theorem takeWhile_all {p:UInt8→Bool}:∀ (l:List UInt8),(l.takeWhile p).length=l.length→∀ x∈l,p x=true
 | [],_,x,hx=>by simp at hx
 | y :: r,h,x,hx=>by
  cases hp:p y with
  | false=>simp [List.takeWhile,hp] at h
  | true =>
   simp only [List.takeWhile,hp,List.length_cons] at h
   rcases List.mem_cons.1 hx with rfl | hx
   · exact hp
   · exact takeWhile_all r (by omega) x hx
theorem dec_all:∀ (l:List UInt8) (acc:Nat),(∀ x∈l,isDigB x.toNat=true)→∃ n,Lib.decFrom acc l=some n
 | [],acc,_=>⟨acc,rfl⟩
 | y :: r,acc,h=>by
  have hy:=h y (by simp)
  simp only [isDigB,Bool.and_eq_true,decide_eq_true_eq] at hy
  obtain ⟨n,hn⟩:=dec_all r (acc * 10+(y.toNat - 48)) (fun x hx=>h x (by simp [hx]))
  refine ⟨n,?_⟩
  have hd:Lib.digitVal y=some (y.toNat - 48):=by unfold Lib.digitVal;rw [if_pos (by omega)]
  simp only [Lib.decFrom,hd]
  exact hn
theorem num_all {t:ByteArray} (h:numB t=true):1≤t.size∧t.size≤9∧∀ x∈t.data.toList,isDigB x.toNat=true:=by
 simp only [numB,Bool.and_eq_true,decide_eq_true_eq,beq_iff_eq] at h
 obtain ⟨⟨h1,h2⟩,h3⟩:=h
 refine ⟨h1,h2,takeWhile_all (p:=fun c=>isDigB c.toNat) _ ?_⟩
 have:runL isDigB t.data.toList=t.size:=by omega
 rw [←show t.data.toList.length=t.size from by simp] at this
 exact this
theorem num_atoi {t:ByteArray} (h:numB t=true):t.size≤18∧Lib.atoi t.data.toList=some (numVal t):=by
 obtain ⟨h1,h2,h3⟩:=num_all h
 refine ⟨by omega,?_⟩
 have hl:t.data.toList.length=t.size:=by simp
 unfold numVal
 cases hc:t.data.toList with
 | nil=>rw [hc] at hl;simp at hl;omega
 | cons x r =>
  rw [hc] at h3
  obtain ⟨n,hn⟩:=dec_all (x :: r) 0 h3
  have hx:=h3 x (by simp)
  simp only [isDigB,Bool.and_eq_true,decide_eq_true_eq] at hx
  have n1:(x == 45)=false:=by
   rw [beq_eq_false_iff_ne];rintro rfl;simp at hx
  have n2:(x == 43)=false:=by
   rw [beq_eq_false_iff_ne];rintro rfl;simp at hx
  have:Lib.atoi (x :: r)=some (n:Int):=by
   unfold Lib.atoi
   simp [n1,n2,Lib.decNat,hn]
  rw [this];rfl
theorem atom_ok {toks:List Tok} (hw:Wf toks) {g:Nat} (hs:OK toks 157 0 g):OK toks 187 3 (g+1):=by
 intro pb tb cap nest a b r w h ha hnest hP
 have HW:=hid hw
 have HP:=hid hP
 have HS:=hid hs
 have HL:=hid (show a < 401 by have:=hw.le;omega)
 have HZ:=hid (show (tx toks a).size≤maxLen by have:=hw.size a;unfold maxLen;omega)
 have HNX:=hid (fun hne:tx toks a≠⟨#[]⟩=>hw.next ha hne)
 simp only [P] at h
 clear hw hP hs
 cases h1:isT toks a [40] with
 | true =>
  rw [h1,if_pos rfl] at h
  have hT:((tx toks a).toList == [40])=true:=h1
  have HN:=hid (HW.out.next_isT ha h1)
  by_cases hn:nest=20
  · rw [if_pos hn] at h
    have e1:=(Prod.mk.inj (Option.some.inj h)).1
    have e2:=(Prod.mk.inj (Option.some.inj h)).2
    subst e1;subst e2;subst hn
    clear h h1
    go_enter Tryz.func187,Tryz.ntmps187
    go_wp2_with fail
    refine (text_any toks pb tb cap a _ _ HP.out ha).mono ?_
    rintro e w1 ⟨rfl,hb⟩
    have HB:=hid hb
    have H1:=hid (HP.out.below hb)
    clear hb
    go_wp2_with fail
    refine (nested_full_bracket toks pb tb cap a _ H1.out ha).mono ?_
    rintro e w2 ⟨⟨v,rfl,hv,hx⟩,hP2,hb2,hF2⟩
    have HF:=hid ((Fr.of_below HB.out).trans hF2)
    have HP2:=hid hP2
    have HV:=hid hv
    clear hP2 hv hx hF2
    go_wp2
    go_ret2
    exact ⟨⟨v,rfl,HV.out,fun x h=>by cases h⟩,HP2.out,hb2,HF.out⟩
  · rw [if_neg hn] at h
    have H:=hid h
    clear h h1
    go_enter Tryz.func187,Tryz.ntmps187
    go_wp2_with fail
    refine (text_any toks pb tb cap a _ _ HP.out ha).mono ?_
    rintro e w1 ⟨rfl,hb⟩
    have HB:=hid hb
    have H1:=hid (HP.out.below hb)
    clear hb
    go_wp2_with fail
    refine (nested_bracket toks pb tb cap nest a b r _ H1.out (by omega) (fun w' hp'=>bracket_ok HW.out HS.out pb tb cap (nest+1) (a+1) b r w' H.out HN.out (by omega) hp') HL.out).mono ?_
    rintro e w2 ⟨⟨v,rfl,hv,hx⟩,hP2,hb2,hF2⟩
    have HF:=hid ((Fr.of_below HB.out).trans hF2)
    have HP2:=hid hP2
    have HV:=hid hv
    have HX:=hid hx
    clear hP2 hv hx hF2
    go_wp2
    go_ret2
    exact ⟨⟨v,rfl,HV.out,HX.out⟩,HP2.out,hb2,HF.out⟩
 | false =>
 rw [h1,if_neg (by simp)] at h
 have n1:((tx toks a).toList == [40])=false:=h1
 clear h1
 cases h2:isT toks a [105,102] with
 | true =>
  rw [h2,if_pos rfl] at h
  have hT:((tx toks a).toList == [105,102])=true:=h2
  have HN:=hid (HW.out.next_isT ha h2)
  by_cases hn:nest=20
  · rw [if_pos hn] at h
    have e1:=(Prod.mk.inj (Option.some.inj h)).1
    have e2:=(Prod.mk.inj (Option.some.inj h)).2
    subst e1;subst e2;subst hn
    clear h h2
    go_enter Tryz.func187,Tryz.ntmps187
    go_wp2_with fail
    refine (text_any toks pb tb cap a _ _ HP.out ha).mono ?_
    rintro e w1 ⟨rfl,hb⟩
    have HB:=hid hb
    have H1:=hid (HP.out.below hb)
    clear hb
    go_wp2_with fail
    refine (nested_full_choice toks pb tb cap a _ H1.out ha).mono ?_
    rintro e w2 ⟨⟨v,rfl,hv,hx⟩,hP2,hb2,hF2⟩
    have HF:=hid ((Fr.of_below HB.out).trans hF2)
    have HP2:=hid hP2
    have HV:=hid hv
    clear hP2 hv hx hF2
    go_wp2
    go_ret2
    exact ⟨⟨v,rfl,HV.out,fun x h=>by cases h⟩,HP2.out,hb2,HF.out⟩
  · rw [if_neg hn] at h
    have H:=hid h
    clear h h2
    go_enter Tryz.func187,Tryz.ntmps187
    go_wp2_with fail
    refine (text_any toks pb tb cap a _ _ HP.out ha).mono ?_
    rintro e w1 ⟨rfl,hb⟩
    have HB:=hid hb
    have H1:=hid (HP.out.below hb)
    clear hb
    go_wp2_with fail
    refine (nested_choice toks pb tb cap nest a b r _ H1.out (by omega) (fun w' hp'=>choice_ok HW.out HS.out pb tb cap (nest+1) (a+1) b r w' H.out HN.out (by omega) hp') HL.out).mono ?_
    rintro e w2 ⟨⟨v,rfl,hv,hx⟩,hP2,hb2,hF2⟩
    have HF:=hid ((Fr.of_below HB.out).trans hF2)
    have HP2:=hid hP2
    have HV:=hid hv
    have HX:=hid hx
    clear hP2 hv hx hF2
    go_wp2
    go_ret2
    exact ⟨⟨v,rfl,HV.out,HX.out⟩,HP2.out,hb2,HF.out⟩
 | false =>
 rw [h2,if_neg (by simp)] at h
 have n2:((tx toks a).toList == [105,102])=false:=h2
 clear h2
 cases h3:((tx toks a).toList == [116,114,117,101]) with
 | true =>
  have hl:leafV (tx toks a)=some (.iface 290 (.bool true)):=by simp [leafV,h3]
  have HN:=hid (HNX.out (leafV_ne hl))
  rw [hl] at h
  have e1:=(Prod.mk.inj (Option.some.inj h)).1
  have e2:=(Prod.mk.inj (Option.some.inj h)).2
  subst e1;subst e2
  clear h hl
  have hb4:=HL.out
  go_enter Tryz.func187,Tryz.ntmps187
  go_wp2_with fail
  refine (text_any toks pb tb cap a _ _ HP.out ha).mono ?_
  rintro e w1 ⟨rfl,hb⟩
  have H1:=hid (HP.out.below hb)
  have HB:=hid (Fr.of_below (S:=[pb]) hb)
  have c1:=H1.out.c1
  have f1:=H1.out.f 1
  clear hb
  go_wp2
  go_ret2
  exact ⟨⟨_,rfl, .inr ⟨_,_,rfl⟩,fun x h=>by cases h;rfl⟩,by have:=H1.out.at (a+1);simpa using this,HN.out,HB.out.setCell _ (.inl (by simp)) _⟩
 | false =>
 cases h4:((tx toks a).toList == [102,97,108,115,101]) with
 | true =>
  have hl:leafV (tx toks a)=some (.iface 290 (.bool false)):=by simp [leafV,h3,h4]
  have HN:=hid (HNX.out (leafV_ne hl))
  rw [hl] at h
  have e1:=(Prod.mk.inj (Option.some.inj h)).1
  have e2:=(Prod.mk.inj (Option.some.inj h)).2
  subst e1;subst e2
  clear h hl
  have hb4:=HL.out
  go_enter Tryz.func187,Tryz.ntmps187
  go_wp2_with fail
  refine (text_any toks pb tb cap a _ _ HP.out ha).mono ?_
  rintro e w1 ⟨rfl,hb⟩
  have H1:=hid (HP.out.below hb)
  have HB:=hid (Fr.of_below (S:=[pb]) hb)
  have c1:=H1.out.c1
  have f1:=H1.out.f 1
  clear hb
  go_wp2
  go_ret2
  exact ⟨⟨_,rfl, .inr ⟨_,_,rfl⟩,fun x h=>by cases h;rfl⟩,by have:=H1.out.at (a+1);simpa using this,HN.out,HB.out.setCell _ (.inl (by simp)) _⟩
 | false =>
 cases h5:numB (tx toks a) with
 | true =>
  have hl:leafV (tx toks a)=some (.iface 197 (.int .i64 (numVal (tx toks a)))):=by simp [leafV,h3,h4,h5]
  have HA:=hid (num_atoi h5)
  have HN:=hid (HNX.out (leafV_ne hl))
  rw [hl] at h
  have e1:=(Prod.mk.inj (Option.some.inj h)).1
  have e2:=(Prod.mk.inj (Option.some.inj h)).2
  subst e1;subst e2
  clear h hl
  have hb4:=HL.out
  go_enter Tryz.func187,Tryz.ntmps187
  go_wp2_with fail
  refine (text_any toks pb tb cap a _ _ HP.out ha).mono ?_
  rintro e w1 ⟨rfl,hb⟩
  have H1:=hid (HP.out.below hb)
  have HB:=hid (Fr.of_below (S:=[pb]) hb)
  have c1:=H1.out.c1
  have f1:=H1.out.f 1
  clear hb
  go_wp2_with (first
   | (go_at_call 191;go_must (refine (isNumber_any _ _ HZ.out).mono ?_;rintro e w2 ⟨rfl,rfl⟩))
   | (go_at_call 192;go_must (refine (Tryz.strconv_Atoi _ _ HA.out.1 HA.out.2 _).mono ?_;rintro e w2 ⟨rfl,t,rfl⟩)))
  go_quiet (fail)
  go_wp2
  go_ret2
  have H2:=H1.out.at (a+1)
  rw [show ((a+1:Nat):Int)=(a:Int)+1 from by omega] at H2
  exact ⟨⟨_,rfl, .inr ⟨_,_,rfl⟩,fun x h=>by cases h;rfl⟩,(H2.below (Lib.bytesWorld_below _ 5 t)).below (below_drewN _ _),HN.out,((HB.out.setCell ⟨pb,1,none⟩ (.inl (by simp)) (.int .i64 ((a:Int)+1))).trans (Fr.of_below (Lib.bytesWorld_below _ 5 t))).trans (Fr.of_below (below_drewN _ _))⟩
 | false =>
 cases h6:nameB (tx toks a) with
 | true =>
  have hl:leafV (tx toks a)=some (.iface 291 (.string (tx toks a))):=by simp [leafV,h3,h4,h5,h6]
  have HN:=hid (HNX.out (leafV_ne hl))
  rw [hl] at h
  have e1:=(Prod.mk.inj (Option.some.inj h)).1
  have e2:=(Prod.mk.inj (Option.some.inj h)).2
  subst e1;subst e2
  clear h hl
  have hb4:=HL.out
  go_enter Tryz.func187,Tryz.ntmps187
  go_wp2_with fail
  refine (text_any toks pb tb cap a _ _ HP.out ha).mono ?_
  rintro e w1 ⟨rfl,hb⟩
  have H1:=hid (HP.out.below hb)
  have HB:=hid (Fr.of_below (S:=[pb]) hb)
  have c1:=H1.out.c1
  have f1:=H1.out.f 1
  clear hb
  go_wp2_with (first
   | (go_at_call 191;go_must (refine (isNumber_any _ _ HZ.out).mono ?_;rintro e w2 ⟨rfl,rfl⟩))
   | (go_at_call 35;go_must (refine (isName_any _ _ HZ.out).mono ?_;rintro e w2 ⟨rfl,rfl⟩)))
  go_ret2
  exact ⟨⟨_,rfl, .inr ⟨_,_,rfl⟩,fun x h=>by cases h;rfl⟩,by have:=H1.out.at (a+1);simpa using this,HN.out,HB.out.setCell _ (.inl (by simp)) _⟩
 | false =>
  have hl:leafV (tx toks a)=none:=by simp [leafV,h3,h4,h5,h6]
  rw [hl] at h
  have e1:=(Prod.mk.inj (Option.some.inj h)).1
  have e2:=(Prod.mk.inj (Option.some.inj h)).2
  subst e1;subst e2
  clear h hl
  have hb4:=HL.out
  go_enter Tryz.func187,Tryz.ntmps187
  go_wp2_with fail
  refine (text_any toks pb tb cap a _ _ HP.out ha).mono ?_
  rintro e w1 ⟨rfl,hb⟩
  have H1:=hid (HP.out.below hb)
  have HB:=hid (Fr.of_below (S:=[pb]) hb)
  have c1:=H1.out.c1
  have f1:=H1.out.f 1
  clear hb
  go_wp2_with (first
   | (go_at_call 191;go_must (refine (isNumber_any _ _ HZ.out).mono ?_;rintro e w2 ⟨rfl,rfl⟩))
   | (go_at_call 35;go_must (refine (isName_any _ _ HZ.out).mono ?_;rintro e w2 ⟨rfl,rfl⟩)))
  go_ret2
  exact ⟨⟨_,rfl, .inl rfl,fun x h=>by cases h⟩,H1.out,ha,HB.out⟩
theorem OK.zero (toks:List Tok) (F tag:Nat):OK toks F tag 0:=by
 intro pb tb cap nest a b r w h
 simp [P] at h
theorem all_ok {toks:List Tok} (hw:Wf toks):∀ n g,g≤n→OK toks 157 0 g∧OK toks 174 1 g∧OK toks 185 2 g∧OK toks 187 3 g:=by
 intro n
 induction n with
 | zero => intro g hg; obtain rfl : g = 0 := by omega
           exact ⟨OK.zero _ _ _,OK.zero _ _ _,OK.zero _ _ _,OK.zero _ _ _⟩
 | succ n ih =>
  intro g hg
  cases g with
  | zero=>exact ⟨OK.zero _ _ _,OK.zero _ _ _,OK.zero _ _ _,OK.zero _ _ _⟩
  | succ g =>
   exact ⟨expr_ok hw (ih g (by omega)).2.1,sum_ok hw fun g' h=>(ih g' (by omega)).2.2.1,product_ok hw fun g' h=>(ih g' (by omega)).2.2.2,atom_ok hw (ih g (by omega)).1⟩
theorem P_ge (toks:List Tok):∀ (f tag nest a:Nat) (acc:Value) (z:Nat × Option Value),P toks f tag nest a acc=some z→a≤z.1:=by
 intro f
 induction f with
 | zero=>intro tag nest a acc z h;simp [P] at h
 | succ f ih =>
  intro tag nest a acc z h
  match tag,h with
  | 0,h =>
   simp only [P] at h
   rcases andP_cases h with ⟨c,h1,rfl⟩ | ⟨c,x,h1,h2⟩
   · exact ih _ _ _ _ _ h1
   · have:=ih _ _ _ _ _ h1
     split at h2
     · rcases andP_cases h2 with ⟨d,h3,rfl⟩ | ⟨d,y,h3,h4⟩
       · have:=ih _ _ _ _ _ h3;simp at *;omega
       · have:=ih _ _ _ _ _ h3;cases h4;simp at *;omega
     · cases h2;exact this
  | 1,h =>
   simp only [P] at h
   rcases andP_cases h with ⟨c,h1,rfl⟩ | ⟨c,x,h1,h2⟩
   · exact ih _ _ _ _ _ h1
   · have h3:=ih _ _ _ _ _ h1
     have h4:=ih _ _ _ _ _ h2
     simp at *;omega
  | 2,h =>
   simp only [P] at h
   rcases andP_cases h with ⟨c,h1,rfl⟩ | ⟨c,x,h1,h2⟩
   · exact ih _ _ _ _ _ h1
   · have h3:=ih _ _ _ _ _ h1
     have h4:=ih _ _ _ _ _ h2
     simp at *;omega
  | 3,h =>
   simp only [P] at h
   split at h
   · split at h
     · cases h;simp
     · rcases andP_cases h with ⟨c,h1,rfl⟩ | ⟨c,x,h1,h2⟩
       · have:=ih _ _ _ _ _ h1;simp at *;omega
       · have:=ih _ _ _ _ _ h1
         split at h2 <;> cases h2 <;> simp at * <;> omega
   · split at h
     · split at h
       · cases h;simp
       · rcases andP_cases h with ⟨c,h1,rfl⟩ | ⟨c,x,h1,h2⟩
         · have:=ih _ _ _ _ _ h1;simp at *;omega
         · have g1:=ih _ _ _ _ _ h1
           split at h2
           · rcases andP_cases h2 with ⟨d,h3,rfl⟩ | ⟨d,y,h3,h4⟩
             · have:=ih _ _ _ _ _ h3;simp at *;omega
             · have g2:=ih _ _ _ _ _ h3
               split at h4
               · rcases andP_cases h4 with ⟨d,h5,rfl⟩ | ⟨d,y,h5,h6⟩
                 · have:=ih _ _ _ _ _ h5;simp at *;omega
                 · have g3:=ih _ _ _ _ _ h5
                   split at h6 <;> cases h6 <;> simp at * <;> omega
               · cases h4;simp at *;omega
           · cases h2;simp at *;omega
     · split at h
       · cases h;simp
       · cases h;simp
  | 4,h =>
   simp only [P] at h
   split at h
   · rcases andP_cases h with ⟨c,h1,rfl⟩ | ⟨c,x,h1,h2⟩
     · have:=ih _ _ _ _ _ h1;simp at *;omega
     · have h3:=ih _ _ _ _ _ h1
       have h4:=ih _ _ _ _ _ h2
       simp at *;omega
   · cases h;simp
  | n+5,h =>
   simp only [P] at h
   split at h
   · rcases andP_cases h with ⟨c,h1,rfl⟩ | ⟨c,x,h1,h2⟩
     · have:=ih _ _ _ _ _ h1;simp at *;omega
     · have h3:=ih _ _ _ _ _ h1
       have h4:=ih _ _ _ _ _ h2
       simp at *;omega
   · cases h;simp
def costP (tag:Nat):Nat:=if tag=0 then 3 else if tag=1 then 2 else if tag=2 then 1 else 0
theorem isT_lt {toks:List Tok} {a:Nat} {x:UInt8} {l:List UInt8} (h:isT toks a (x :: l)=true):a < toks.length:=by
 rcases Nat.lt_or_ge a toks.length with h1 | h1
 · exact h1
 · rw [isT,tx,List.getElem?_eq_none h1] at h
   simp at h
theorem andP_def {p:PR} {k:Nat→Value→PR} (h1:p≠none) (h2:∀ b x,p=some (b,some x)→k b x≠none):andP p k≠none:=by
 unfold andP
 split
 · exact absurd rfl h1
 · simp
 · exact h2 _ _ rfl
theorem P_def (toks:List Tok):∀ (f tag nest a:Nat) (acc:Value),4 * (toks.length - a)+costP tag < f→P toks f tag nest a acc≠none:=by
 intro f
 induction f with
 | zero=>intro tag nest a acc h;omega
 | succ f ih =>
  intro tag nest a acc h
  match tag,h with
  | 0,h =>
   simp only [P]
   simp [costP] at h
   refine andP_def (ih _ _ _ _ (by simp [costP];omega)) fun b x hx => ?_
   have hge:=P_ge _ _ _ _ _ _ _ hx
   split
   · rename_i ht
     have hl:=isT_lt ht
     refine andP_def (ih _ _ _ _ (by simp [costP] at *;omega)) fun c y hy=>by simp
   · simp
  | 1,h =>
   simp only [P]
   simp [costP] at h
   refine andP_def (ih _ _ _ _ (by simp [costP];omega)) fun b x hx => ?_
   have hge:=P_ge _ _ _ _ _ _ _ hx
   exact ih _ _ _ _ (by simp [costP] at *;omega)
  | 2,h =>
   simp only [P]
   simp [costP] at h
   refine andP_def (ih _ _ _ _ (by simp [costP];omega)) fun b x hx => ?_
   have hge:=P_ge _ _ _ _ _ _ _ hx
   exact ih _ _ _ _ (by simp [costP] at *;omega)
  | 3,h =>
   simp only [P]
   simp [costP] at h
   split
   · rename_i ht
     have hl:=isT_lt ht
     split
     · simp
     · refine andP_def (ih _ _ _ _ (by simp [costP];omega)) fun b x hx => ?_
       split <;> simp
   · split
     · rename_i ht
       have hl:=isT_lt ht
       split
       · simp
       · refine andP_def (ih _ _ _ _ (by simp [costP];omega)) fun b x hx => ?_
         have hge:=P_ge _ _ _ _ _ _ _ hx
         split
         · refine andP_def (ih _ _ _ _ (by simp [costP] at *;omega)) fun b x hx => ?_
           have hge:=P_ge _ _ _ _ _ _ _ hx
           split
           · refine andP_def (ih _ _ _ _ (by simp [costP] at *;omega)) fun b x hx => ?_
             split <;> simp
           · simp
         · simp
     · split <;> simp
  | 4,h =>
   simp only [P]
   simp [costP] at h
   split
   · rename_i ht
     have hl:=isT_lt ht
     refine andP_def (ih _ _ _ _ (by simp [costP];omega)) fun b x hx => ?_
     have hge:=P_ge _ _ _ _ _ _ _ hx
     exact ih _ _ _ _ (by simp [costP] at *;omega)
   · simp
  | n+5,h =>
   simp only [P]
   simp [costP] at h
   split
   · rename_i ht
     have hl:=isT_lt ht
     refine andP_def (ih _ _ _ _ (by simp [costP];omega)) fun b x hx => ?_
     have hge:=P_ge _ _ _ _ _ _ _ hx
     exact ih _ _ _ _ (by simp [costP] at *;omega)
   · simp
def exprP (toks:List Tok) (a:Nat):Nat × Option Value:=(P toks 1700 0 0 a .nilIface).getD (a,none)
theorem exprP_eq {toks:List Tok} (hw:Wf toks) (a:Nat):P toks 1700 0 0 a .nilIface=some (exprP toks a):=by
 have h:=P_def toks 1700 0 0 a .nilIface (by have:=hw.le;simp [costP];omega)
 unfold exprP
 cases hp:P toks 1700 0 0 a .nilIface with
 | none=>exact absurd hp h
 | some z=>rfl
theorem exprP_ge {toks:List Tok} (hw:Wf toks) (a:Nat):a≤(exprP toks a).1:=P_ge _ _ _ _ _ _ _ (exprP_eq hw a)
theorem exprP_iface {toks:List Tok} (hw:Wf toks) {a b:Nat} {x:Value} (h:exprP toks a=(b,some x)):IfcS x:=P_iface _ _ _ _ _ _ _ _ ((exprP_eq hw a).trans (congrArg some h)) (.inl (by omega))
theorem expr_any {toks:List Tok} (hw:Wf toks) (pb tb cap a:Nat) (w:World) (ha:a < toks.length) (hP:PS toks pb tb cap a 0 w.heap) :
 Calls Tryz.prog 157 #[.pointer (some ⟨pb,0,none⟩)] w (Post toks pb tb cap 0 (exprP toks a).1 (exprP toks a).2 w) :=
 (all_ok hw 1700 1700 (Nat.le_refl _)).1 pb tb cap 0 a _ _ w (exprP_eq hw a) ha (by omega) hP
end Go.Proofs.YthibodlojlkppaaGreatDoor

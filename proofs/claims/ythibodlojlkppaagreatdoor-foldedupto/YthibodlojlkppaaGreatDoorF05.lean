/-
  made, walked.
-/
import Derived.Test.YthibodlojlkppaaGreatDoorF04
set_option linter.unusedVariables false
set_option linter.unusedSectionVars false
set_option linter.unusedSimpArgs false
set_option maxRecDepth 100000
set_option maxHeartbeats 40000000

namespace Go.Proofs.YthibodlojlkppaaGreatDoor
open Go.RowKit
variable [DecidableEq K] [LawfulBEq Lk]
structure NumsAt (W:World) (na:Option Addr) (l:List Int):Prop where
 ex:∃ b o:Nat,(0 < l.length→na=some ⟨b,o,none⟩∧b < W.heap.size)∧∀ (j:Nat) c,l[j]? = some c→W.cell? ⟨b,o+j,none⟩=some (.int .i64 c)
 rng:∀ c∈l,I64 c
 len:l.length≤1048576
theorem md_start {W:World} {na:Option Addr} {nc:Nat} {l:List Int} (h:NumsAt W na l) (o:Obj):MdW W l (W.heap.size+1) 0 0 0 (.slice none 0 0) (.slice none 0 0) ((W.alloc o).alloc (.cells #[.slice na l.length nc, .int .i64 0] 49)):=by
 obtain ⟨b,o',hb,hc⟩:=h.ex
 have hB:=((Below.refl W.heap.size W).alloc (Nat.le_refl _) o).alloc (by simp) (.cells #[.slice na l.length nc, .int .i64 0] 49)
 have hN:=new_heap (W.alloc o) (.cells #[.slice na l.length nc, .int .i64 0] 49)
 rw [show (W.alloc o).heap.size=W.heap.size+1 by simp] at hN
 refine ⟨⟨⟨na,nc,hN,b,o',hb,fun j c hj => ?_⟩,h.rng,by omega,h.len,Nat.zero_le _⟩,hB,World.ownsRow_nil _ _ _ _,World.ownsRow_nil _ _ _ _,fun b hb=>by simp [Value.ownBlock] at hb,by simp [Value.ownBlock],by simp [Value.ownBlock]⟩
 have hl:0 < l.length:=by have:=(List.getElem?_eq_some_iff.1 hj).1;omega
 exact cell_kept hB (hc j c hj)
theorem MdW.sum {W:World} {l:List Int} {mb f k:Nat} {tv:Value} {a:Option Addr} {c:Nat} {wr:World} (hp:PT W.heap.size W) (hk:k < 10) (h:MdW W l mb f k (madeM l k).i tv (.slice a k c) wr) :
 Calls Tryz.prog 16 #[ptr mb, .slice a k c, .int .i64 2] wr fun e w' => ∃ (s:ByteArray) (x:Nat),e = .returned (.tuple #[.string s, .int .i64 x])∧(x≤1000000000000∧s.size≤114)∧((1000 < x∨100 < s.size)→txB (E5 l k)=⟨#[53]⟩∧V5 l k=5)∧(¬ (1000 < x∨100 < s.size)→txB (E5 l k)=s∧V5 l k=x)∧MdW W l mb f k (madeM l (k+1)).i tv (.slice a k c) w':=by
 have hc:=sum2C (vc:=c) hp (by rw [madeM_len];omega) (made_small l (k:=k) (by omega)) (h.su rfl)
 rw [madeM_len] at hc
 refine hc.mono ?_
 rintro e w' ⟨rfl,hf,hk2⟩
 have hlen:=madeM_len l k
 have h4:=(sumM_2 l (vs:=(madeM l k).vs) (by omega) (madeM l k).i).len
 have h5:=(val_2 l (vs:=(madeM l k).vs) (by omega) (made_small l (by omega)) (madeM l k).i).1
 rw [←tx_size] at h4
 refine ⟨_,_,rfl,⟨h5,h4⟩,fun hx => ?_,fun hx => ?_,h.fr hf hk2⟩
 · rw [tx_size] at hx
   unfold V5 E5 capM
   rw [if_pos hx]
   exact ⟨rfl,rfl⟩
 · rw [tx_size] at hx
   unfold V5 E5 capM
   rw [if_neg hx]
   exact ⟨rfl,rfl⟩
theorem MdW.vshape {W:World} {l:List Int} {mb f k i:Nat} {tv vv:Value} {wr:World} (h:MdW W l mb f k i tv vv wr):(∃ a c,tv = .slice a f c)∧∃ a c,vv = .slice a k c:=by
 constructor
 · obtain ⟨_,⟨h,h0⟩ | ⟨g,c,_,h,_⟩⟩:=h.tx
   · exact ⟨none,0,by rw [h,h0]⟩
   · exact ⟨_,_,h⟩
 · obtain ⟨_,⟨h,h0⟩ | ⟨g,c,_,h,_⟩⟩:=h.vl
   · exact ⟨none,0,by rw [h,h0]⟩
   · exact ⟨_,_,h⟩
theorem tB_size (l:List Int) {f:Nat} (hf:f < 5):∀ j,j≤2→(tB l f j).size≤28+119 * j
 | 0,_=>by show (useB f).size≤_;rw [useB_size];omega
 | j+1,h=>by
  have h1:=tB_size l hf j (by omega)
  have h2:=(E5_ok l (2 * f+j) (by omega) (made_small l (by omega))).2.2.2.1
  have:(⟨(lineT (2 * f+j) (E5 l (2 * f+j))).toArray⟩:ByteArray).size=(lineT (2 * f+j) (E5 l (2 * f+j))).length:=by simp [ByteArray.size]
  show (tB l f j ++ _).size≤_
  rw [ByteArray.size_append,this,lineT_len]
  omega
theorem infoIntK:(Tryz.prog.info? 3).map (fun i=>(i.zero,i.size,i.bytes))=some (some (.int .i64 0),1,8):=by kernel_rfl
theorem madeC {W:World} {na:Option Addr} {nc:Nat} {l:List Int} (h:NumsAt W na l) (hp:PT W.heap.size W) :
 Calls Tryz.prog 6 #[.agg #[.slice na l.length nc]] W fun e w' => ∃ ta tc va vc,e = .returned (.tuple #[.slice ta 5 tc, .slice va 10 vc])∧MdW W l (W.heap.size+1) 5 10 (madeM l 10).i (.slice ta 5 tc) (.slice va 10 vc) w':=by
 have HST:=hid (md_start (nc:=nc) h)
 have HPT:=hid hp
 have hl:=h.len
 generalize hn:l.length=n at *
 have HN:=hid hn
 obtain ⟨i0,hi0,hz0,hz1,hz2⟩:=info_parts infoIntK
 obtain ⟨p0,hp0,hy0,hy1,hy2⟩:=info_parts infoStrK
 clear h hp hn
 go_enter Tryz.func6,Tryz.ntmps6
 go_wp2_with fail
 have HS0:=hid (HST.out (.cells #[.slice na n nc] 24))
 clear HST
 generalize (W.alloc (.cells #[.slice na n nc] 24)).alloc (.cells #[.slice na n nc, .int .i64 0] 49)=W1 at HS0 ⊢
 generalize hmb:W.heap.size+1=mb at HS0 ⊢
 have HMB:=hid hmb
 clear hmb
 go_loopg [5,6,7] 5 (fun fu v5 v6 v7 wr => ∃ f,f+fu=5∧v7 = .int .i64 (f:Nat)∧MdW W l mb f (2 * f) (madeM l (2 * f)).i v5 v6 wr)
 case atStart=>exact ⟨0,by omega,rfl,HS0.out⟩
 case round =>
  clear HS0
  obtain ⟨f,hf,rfl,hr⟩:=hrel
  obtain ⟨⟨ta,tc,rfl⟩,⟨va,vc,rfl⟩⟩:=hr.vshape
  have HR:=hid hr
  clear hr
  have hf0:(0:Int)≤(f:Int):=by omega
  by_cases hlt:f < 5
  · have hlt2:(f:Int) < 5:=by omega
    generalize wr=w0 at *
    go_wp2_with fail
    go_loopg [8,9] f (fun fu v8 v9 wx => ∃ u,u+fu=f∧v9 = .int .i64 (u:Nat)∧v8 = .string (useB u)∧Below w0.heap.size w0 wx)
    case atStart=>exact ⟨0,by omega,rfl,rfl,Below.refl _ _⟩
    case round =>
     obtain ⟨u,hu,rfl,rfl,hb⟩:=hrel
     have HB:=hid hb
     clear hb
     have hu0:(0:Int)≤(u:Int):=by omega
     by_cases hul:u < f
     · have hul2:(u:Int) < (f:Int):=by omega
       have HF:Hid (∀ W,Calls Tryz.prog 10 #[.int .i64 (u:Nat)] W fun e w'=>e = .returned (.string (fileN u))∧w'=W):=hid fun W=>fileC u (by omega) W
       have HU:=hid (useB_succ u)
       have hz:=useB_size u
       have hz2:(fileN u).size=1:=rfl
       generalize useB u=s at *
       generalize fileN u=fl at *
       have q1:¬ (9223372036854775807 < s.size+4):=by omega
       have q2:¬ (9223372036854775807 < s.size+4+fl.size):=by omega
       have q3:¬ (9223372036854775807 < s.size+4+fl.size+2):=by omega
       go_wp2_with fail
       refine (HF.out _).mono ?_
       rintro e w2 ⟨rfl,rfl⟩
       go_wp2
       go_roundg (f - (u+1))
       case rel=>exact ⟨u+1,by omega,by go_num,congrArg Value.string HU.out,HB.out⟩
       case measure=>omega
     · have hue:u=f:=by omega
       subst hue
       have hul2:¬ ((u:Int) < (u:Int)):=by omega
       have HR2:=hid (HR.out.below HB.out)
       clear HR HB
       go_wp2_with fail
       go_loopg [6,8,10] 2 (fun fu v6 v8 v10 wx => ∃ j,j+fu=2∧v10 = .int .i64 (j:Nat)∧v8 = .string (tB l u j)∧MdW W l mb u (2 * u+j) (madeM l (2 * u+j)).i (.slice ta u tc) v6 wx)
       case atStart=>exact ⟨0,by omega,rfl,rfl,HR2.out⟩
       case round =>
        clear HR2
        obtain ⟨j,hj,rfl,rfl,hg⟩:=hrel
        obtain ⟨_,⟨va,vc,rfl⟩⟩:=hg.vshape
        have HG:=hid hg
        clear hg
        have hj0:(0:Int)≤(j:Int):=by omega
        by_cases hj2:j < 2
        · have hj3:(j:Int) < 2:=by omega
          have HS:=hid (HG.out.sum HPT.out (by omega))
          have htb:=tB_size l (f:=u) (by omega) j (by omega)
          have hk10:2 * u+j < 10:=by omega
          have HTB:Hid (tB l u (j+1)=tB l u j ++ ⟨(lineT (2 * u+j) (E5 l (2 * u+j))).toArray⟩):=hid rfl
          have hkk:2 * u+(j+1)=2 * u+j+1:=by omega
          have HKK:=hid hkk
          clear hkk
          generalize tB l u j=t at *
          generalize 2 * u+j=k at *
          have HNM:Hid (∀ W,Calls Tryz.prog 11 #[.int .i64 (k:Nat)] W fun e w'=>e = .returned (.string (nmB k))∧w'=W):=hid fun W=>nameC k hk10 W
          have hnz:(nmB k).size=2:=rfl
          go_wp2_with fail
          refine HS.out.mono ?_
          rintro e w2 ⟨sx,x,rfl,⟨hx1,hx2⟩,hcap,hnc,hg2⟩
          have HG2:=hid hg2
          have HC1:=hid hcap
          have HC2:=hid hnc
          have HL:=hid (line_eq t k (E5 l k))
          clear hg2 hcap hnc HG HS
          by_cases hx:1000 < x∨100 < sx.size
          · obtain ⟨e1,e2⟩:=HC1.out hx
            have HXX:=hid (show (1000:Int) < x∨(¬ (1000:Int) < x)∧(100:Int) < sx.size by omega)
            rw [e1] at HL
            have HE2:=hid e2
            generalize nmB k=nm at *
            have q1:¬ (9223372036854775807 < t.size+8):=by omega
            have q2:¬ (9223372036854775807 < t.size+8+nm.size):=by omega
            have q3:¬ (9223372036854775807 < t.size+8+nm.size+7):=by omega
            have q4:¬ (9223372036854775807 < t.size+8+nm.size+7+1):=by omega
            have q5:¬ (9223372036854775807 < t.size+8+nm.size+7+1+2):=by omega
            clear e1 e2 hx HC1 HC2
            rcases HXX.out with hxa | ⟨hxa,hxb⟩
            all_goals
             go_wp2_with fail
             refine (HNM.out _).mono ?_
             rintro e w3 ⟨rfl,rfl⟩
             have hown0:=HG2.out.vl
             have hlo0:=HG2.out.lo.size
             go_wp2_with (at_builtin;go_must (refine wpList_append_own_at _ rfl _ _ 22 rfl W.heap.size 3 i0 (.int .i64 0) 1 8 Tryz.underlying22 hi0 hz0 hz1 hz2 rfl (by decide) _ _ _ rfl (hown0.alloc _) ⟨w3.heap.size,0,none⟩ 1 1 [.int .i64 5] rfl rfl ?_ ?_ ?_ ?_ ?_ ?_))
             all_goals first
              | (intro j u hj
                 match j,hj with
                 | 0,hj=>simp at hj;subst hj;exact World.cell?_alloc_at _ _ _ _ (by simp)
                 | (n+1),hj=>simp at hj)
              | (intro u hu;simp at hu;subst hu;rfl)
              | (unfold maxLen;omega)
              | omega
              | (simp;omega)
              | skip
             intro v' w4 hown' hgrow hnil hloc
             have HG4:=hid ((HG2.out.below (below_newK _ _)).pushV (by rw [HE2.out];exact hown') hgrow (by simpa using hloc))
             obtain ⟨_,⟨v4,c4,rfl⟩⟩:=HG4.out.vshape
             clear hown' hgrow hnil hloc hown0 hlo0
             go_wp2
             go_roundg (2 - (j+1))
             case rel=>exact ⟨j+1,by omega,by go_num,congrArg Value.string (HL.out.trans HTB.out.symm),by rw [HKK.out];exact HG4.out⟩
             case measure=>omega
          · obtain ⟨e1,e2⟩:=HC2.out hx
            have hxa:¬ (1000 < (x:Int)):=by omega
            have hxb:¬ (100 < (sx.size:Int)):=by omega
            rw [e1] at HL
            have HE2:=hid e2
            generalize nmB k=nm at *
            have q1:¬ (9223372036854775807 < t.size+8):=by omega
            have q2:¬ (9223372036854775807 < t.size+8+nm.size):=by omega
            have q3:¬ (9223372036854775807 < t.size+8+nm.size+7):=by omega
            have q4:¬ (9223372036854775807 < t.size+8+nm.size+7+sx.size):=by omega
            have q5:¬ (9223372036854775807 < t.size+8+nm.size+7+sx.size+2):=by omega
            clear e1 e2 hx HC1 HC2
            go_wp2_with fail
            refine (HNM.out _).mono ?_
            rintro e w3 ⟨rfl,rfl⟩
            have hown0:=HG2.out.vl
            have hlo0:=HG2.out.lo.size
            go_wp2_with (at_builtin;go_must (refine wpList_append_own_at _ rfl _ _ 22 rfl W.heap.size 3 i0 (.int .i64 0) 1 8 Tryz.underlying22 hi0 hz0 hz1 hz2 rfl (by decide) _ _ _ rfl (hown0.alloc _) ⟨w3.heap.size,0,none⟩ 1 1 [.int .i64 x] rfl rfl ?_ ?_ ?_ ?_ ?_ ?_))
            all_goals first
             | (intro j u hj
                match j,hj with
                | 0,hj=>simp at hj;subst hj;exact World.cell?_alloc_at _ _ _ _ (by simp)
                | (n+1),hj=>simp at hj)
             | (intro u hu;simp at hu;subst hu;rfl)
             | (unfold maxLen;omega)
             | omega
             | (simp;omega)
             | skip
            intro v' w4 hown' hgrow hnil hloc
            have HG4:=hid ((HG2.out.below (below_newK _ _)).pushV (by rw [HE2.out];exact hown') hgrow (by simpa using hloc))
            obtain ⟨_,⟨v4,c4,rfl⟩⟩:=HG4.out.vshape
            clear hown' hgrow hnil hloc hown0 hlo0
            go_wp2
            go_roundg (2 - (j+1))
            case rel=>exact ⟨j+1,by omega,by go_num,congrArg Value.string (HL.out.trans HTB.out.symm),by rw [HKK.out];exact HG4.out⟩
            case measure=>omega
        · have hje:j=2:=by omega
          subst hje
          have hj3:¬ (((2:Nat):Int) < 2):=by omega
          rw [show 2 * u+2=2 * (u+1) by omega] at HG
          have HTX:=hid (tB_two l u)
          have hown0:=HG.out.tx
          have hlo0:=HG.out.lo.size
          rw [HTX.out]
          obtain ⟨tx,htx⟩:∃ tx,tx=text5 l u:=⟨_,rfl⟩
          have HTX2:=hid htx
          rw [←htx]
          clear htx
          go_wp2_with (at_builtin;go_must (refine wpList_append_own_at _ rfl _ _ 25 rfl W.heap.size 9 p0 (.string nob) 1 16 Tryz.underlying25 hp0 hy0 hy1 hy2 rfl (by decide) _ _ _ rfl (hown0.alloc _) ⟨wr.heap.size,0,none⟩ 1 1 [.string tx] rfl rfl ?_ ?_ ?_ ?_ ?_ ?_))
          all_goals first
           | (intro j u hj
              match j,hj with
              | 0,hj=>simp at hj;subst hj;exact World.cell?_alloc_at _ _ _ _ (by simp)
              | (n+1),hj=>simp at hj)
           | (intro u hu;simp at hu;subst hu;rfl)
           | (unfold maxLen;omega)
           | omega
           | (simp;omega)
           | rfl
           | skip
          intro v' w4 hown' hgrow hnil hloc
          have HG4:=hid ((HG.out.below (below_newK _ _)).pushT (by rw [←HTX2.out];exact hown') hgrow (by simpa using hloc))
          obtain ⟨⟨v4,c4,rfl⟩,_⟩:=HG4.out.vshape
          clear hown' hgrow hnil hloc hown0 hlo0
          go_wp2
          go_roundg (5 - (u+1))
          case rel=>exact ⟨u+1,by omega,by go_num,HG4.out⟩
          case measure=>omega
  · have hfe:f=5:=by omega
    subst hfe
    have hlt2:¬ (((5:Nat):Int) < 5):=by omega
    go_wp2
    go_ret2
    rw [HMB.out]
    exact ⟨ta,tc,va,vc,rfl,HR.out⟩
end Go.Proofs.YthibodlojlkppaaGreatDoor

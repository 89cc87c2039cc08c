/-
  The maker's sums, one level more. The maker's sums: of two sums one. The maker's sums of two levels. The files that a plan makes. begun: a session with files; a known sum is worked out. made, walked: what stands as it goes on.
-/
import Derived.Test.YthibodlojlkppaaGreatDoorB36
import Derived.Test.YthibodlojlkppaaGreatDoorF02
import Derived.Test.YthibodlojlkppaaGreatDoorF03
set_option linter.unusedVariables false
set_option linter.unusedSectionVars false
set_option linter.unusedSimpArgs false
set_option maxRecDepth 100000
set_option maxHeartbeats 40000000

namespace Go.Proofs.YthibodlojlkppaaGreatDoor
open Go.RowKit
variable [DecidableEq K] [LawfulBEq Lk]
structure SuI (W0:World) (mb:Nat) (l:List Int) (vs:List Nat) (va:Option Addr) (vc d:Nat):Prop where
 call:∀ i w,SuW W0 mb l vs va i w→Calls Tryz.prog 16 #[ptr mb, .slice va vs.length vc, .int .i64 d] w (SuP W0.heap.size mb l vs (sumM l vs d i) w)
 sz:∀ i,(txB (sumM l vs d i).1).size≤30
 val:∀ i,(sumM l vs d i).1.val (vof vs)≤1000000
section
variable {W0:World} {mb:Nat} {l:List Int} {vs:List Nat} {va:Option Addr} {vc i:Nat} {w:World}
theorem sumLC (hp:PT W0.heap.size W0) (hv:vs.length≤10) (h:SuW W0 mb l vs va i w) {D:Int} (hD:(D == 0)=false) (hlt:(oneM l i 6).1 < 2) :
 Calls Tryz.prog 16 #[ptr mb, .slice va vs.length vc, .int .i64 D] w (SuP W0.heap.size mb l vs (leafM l vs (oneM l i 6).1 (oneM l i 6).2) w):=by
 have H1:=hid (oneC h.ms 6 (by decide) (by decide))
 have HS:=hid h
 generalize oneM l i 6=p at *
 clear h
 obtain ⟨y,i1⟩:=p
 simp only at hlt H1 ⊢
 by_cases hc:y=0∨vs.length=0
 · rw [show leafM l vs y i1=(.num (oneM l i1 7).1,(oneM l i1 7).2) by unfold leafM;rw [if_pos hc]]
   have hn7:=oneM_lt l i1 (n:=7) (by decide)
   have HI:Hid (∀ W i',SuW W0 mb l vs va i' W→Calls Tryz.prog 12 #[.int .i64 (oneM l i1 7).1] W fun e w'=>e = .returned (.string (decX (oneM l i1 7).1))∧Below W.heap.size W w'):=hid fun W i' hW=>itoaB _ (by omega) W (pt_up hp hW.lo)
   have HD:=hid (dec7 (oneM l i1 7).1 hn7)
   by_cases hy0:y=0
   · subst hy0
     go_enter Tryz.func16,Tryz.ntmps16
     go_wp2_with fail
     refine H1.out.mono ?_
     rintro e w1 ⟨rfl,hf,hk⟩
     have HS1:=hid (HS.out.step hf hk)
     have HF1:=hid hf
     clear hf hk H1
     go_wp2_with fail
     refine (oneC HS1.out.ms 7 (by decide) (by decide)).mono ?_
     rintro e w2 ⟨rfl,hf,hk⟩
     have HS2:=hid (HS1.out.step hf hk)
     have HF2:=hid (HF1.out.trans hf fun _ x => .inl x)
     clear hf hk HS1 HF1
     go_wp2_with fail
     refine (HI.out _ _ HS2.out).mono ?_
     rintro e w3 ⟨rfl,hb⟩
     have HS3:=hid (HS2.out.below hb)
     have HF3:=hid (HF2.out.trans (FR.of_below (O:=(· = mb)) hb) fun _ x => .inl x)
     clear hb
     go_wp2
     go_ret2
     unfold SuP
     rw [HD.out]
     exact ⟨rfl,HF3.out,HS3.out.ms⟩
   · have hy1:y=1:=by omega
     have hl0:vs.length=0:=by omega
     subst hy1
     rw [hl0] at *
     go_enter Tryz.func16,Tryz.ntmps16
     go_wp2_with fail
     refine H1.out.mono ?_
     rintro e w1 ⟨rfl,hf,hk⟩
     have HS1:=hid (HS.out.step hf hk)
     have HF1:=hid hf
     clear hf hk H1
     go_wp2_with fail
     refine (oneC HS1.out.ms 7 (by decide) (by decide)).mono ?_
     rintro e w2 ⟨rfl,hf,hk⟩
     have HS2:=hid (HS1.out.step hf hk)
     have HF2:=hid (HF1.out.trans hf fun _ x => .inl x)
     clear hf hk HS1 HF1
     go_wp2_with fail
     refine (HI.out _ _ HS2.out).mono ?_
     rintro e w3 ⟨rfl,hb⟩
     have HS3:=hid (HS2.out.below hb)
     have HF3:=hid (HF2.out.trans (FR.of_below (O:=(· = mb)) hb) fun _ x => .inl x)
     clear hb
     go_wp2
     go_ret2
     unfold SuP
     rw [HD.out]
     exact ⟨rfl,HF3.out,HS3.out.ms⟩
 · rw [show leafM l vs y i1=(.ref (oneM l i1 vs.length).1,(oneM l i1 vs.length).2) by unfold leafM;rw [if_neg hc]]
   have hlen:0 < vs.length:=by omega
   have hy1:y=1:=by omega
   subst hy1
   have hz0:(((vs.length:Nat):Int) == 0)=false:=by rw [beq_eq_false_iff_ne];omega
   have hkk:=oneM_lt l i1 hlen
   have HQ:Hid (∀ W,MkS W0.heap.size mb l i1 W→Calls Tryz.prog 28 #[ptr mb, .int .i64 vs.length] W fun e w'=>e = .returned (.int .i64 (oneM l i1 vs.length).1)∧FR (· = mb) W w'∧MkS W0.heap.size mb l (oneM l i1 vs.length).2 w'):=hid fun W hW=>oneC hW vs.length hlen (by omega)
   generalize oneM l i1 vs.length=q at *
   obtain ⟨k,i2⟩:=q
   simp only at hkk HQ ⊢
   obtain ⟨x,hx⟩:∃ x,vs[k]? = some x:=⟨_,List.getElem?_eq_getElem hkk⟩
   have HX:=hid hx
   have hvv:vof vs k=x:=by unfold vof;rw [List.getD_eq_getElem?_getD,hx];rfl
   have HV:=hid hvv
   have HN:Hid (∀ W,Calls Tryz.prog 11 #[.int .i64 (k:Nat)] W fun e w'=>e = .returned (.string (nmB k))∧w'=W):=hid fun W=>nameC k (by omega) W
   clear hx hvv hc
   go_enter Tryz.func16,Tryz.ntmps16
   go_wp2_with fail
   refine H1.out.mono ?_
   rintro e w1 ⟨rfl,hf,hk⟩
   have HS1:=hid (HS.out.step hf hk)
   have HF1:=hid hf
   clear hf hk H1
   go_wp2_with fail
   refine (HQ.out _ HS1.out.ms).mono ?_
   rintro e w2 ⟨rfl,hf,hk⟩
   have HS2:=hid (HS1.out.step hf hk)
   have HF2:=hid (HF1.out.trans hf fun _ x => .inl x)
   clear hf hk HS1 HF1
   obtain ⟨b,hb1,hb2⟩:=HS2.out.vl
   obtain ⟨hva,hbm,hbs⟩:=hb1 hlen
   have hcell:=hb2 _ _ HX.out
   subst hva
   clear hb1 hb2 hbm hbs
   go_wp2_with fail
   go_quiet ((go_at_call 11;refine Calls.quiet_of_same (HN.out _)))
   go_wp2
   go_ret2
   unfold SuP
   have hv':(PE.ref k).val (vof vs)=x:=HV.out
   rw [hv']
   exact ⟨rfl,HF2.out.trans (FR.of_below (O:=(· = mb)) (below_drewN w2 nq)) fun _ x => .inl x,(HS2.out.below (below_drewN w2 nq)).ms⟩
end
theorem tx_add (a b:PE):(((⟨#[40]⟩ ++ txB a) ++ ⟨#[32,43,32]⟩) ++ txB b) ++ ⟨#[41]⟩=txB (.add a b):=by
 apply ByteArray.ext;apply Array.toList_inj.1;simp [txB,PE.t,two]
theorem tx_mul (a b:PE):(((⟨#[40]⟩ ++ txB a) ++ ⟨#[41,42,40]⟩) ++ txB b) ++ ⟨#[41]⟩=txB (.mul a b):=by
 apply ByteArray.ext;apply Array.toList_inj.1;simp [txB,PE.t,two]
theorem tx_iteA (a b:PE):(((((⟨#[105,102,32]⟩ ++ txB a) ++ ⟨#[32,61,61,32]⟩) ++ txB b) ++ ⟨#[32,116,104,101,110,32]⟩) ++ txB a) ++ ⟨#[32,101,108,115,101,32,49,32,101,110,100]⟩=txB (.iteA a b):=by
 apply ByteArray.ext;apply Array.toList_inj.1;simp [txB,PE.t,two]
theorem tx_iteB (a b:PE):(((((⟨#[105,102,32]⟩ ++ txB a) ++ ⟨#[32,61,61,32]⟩) ++ txB b) ++ ⟨#[32,116,104,101,110,32,49,32,101,108,115,101,32]⟩) ++ txB b) ++ ⟨#[32,101,110,100]⟩=txB (.iteB a b):=by
 apply ByteArray.ext;apply Array.toList_inj.1;simp [txB,PE.t,two]
section
variable {W0:World} {mb:Nat} {l:List Int} {vs:List Nat} {va:Option Addr} {vc d i:Nat} {w:World}
theorem sumSC (hI:SuI W0 mb l vs va vc d) (h:SuW W0 mb l vs va i w) {D:Int} (hD:(D == 0)=false) (hD1:D - 1=d) (hd:d≤1) (hge:2≤(oneM l i 6).1) :
 Calls Tryz.prog 16 #[ptr mb, .slice va vs.length vc, .int .i64 D] w (SuP W0.heap.size mb l vs (combM vs (oneM l i 6).1 (sumM l vs d (oneM l i 6).2).1 (sumM l vs d (sumM l vs d (oneM l i 6).2).2).1,(sumM l vs d (sumM l vs d (oneM l i 6).2).2).2) w):=by
 have hy:=oneM_lt l i (n:=6) (by decide)
 have H1:=hid (oneC h.ms 6 (by decide) (by decide))
 have HS:=hid h
 have hDw:D=d+1:=by omega
 generalize oneM l i 6=p at *
 clear h
 obtain ⟨y,i1⟩:=p
 simp only at hy hge H1 ⊢
 have hza:=hI.sz i1
 have hxa:=hI.val i1
 have HA:=hid (fun w=>hI.call i1 w)
 generalize sumM l vs d i1=A at *
 obtain ⟨A,i2⟩:=A
 simp only at hza hxa HA ⊢
 have hzb:=hI.sz i2
 have hxb:=hI.val i2
 have HB:=hid (fun w=>hI.call i2 w)
 generalize sumM l vs d i2=B at *
 obtain ⟨B,i3⟩:=B
 simp only at hzb hxb HB ⊢
 unfold SuP at HA HB
 obtain ⟨sa,hsa⟩:∃ s,s=txB A:=⟨_,rfl⟩
 obtain ⟨sb,hsb⟩:∃ s,s=txB B:=⟨_,rfl⟩
 obtain ⟨xa,hva⟩:∃ x,x=A.val (vof vs):=⟨_,rfl⟩
 obtain ⟨xb,hvb⟩:∃ x,x=B.val (vof vs):=⟨_,rfl⟩
 simp only [←hsa,←hsb,←hva,←hvb] at hza hzb hxa hxb HA HB
 have hm:xa * xb≤1000000 * 1000000:=Nat.mul_le_mul hxa hxb
 obtain ⟨m,hmm⟩:∃ m:Int,m=(xa:Int) * xb:=⟨_,rfl⟩
 have hm0:0≤m:=by rw [hmm,←Int.natCast_mul];omega
 have hm1:m≤1000000000000:=by rw [hmm,←Int.natCast_mul];omega
 have hmm2:(xa:Int) * xb=m:=hmm.symm
 have F2:Hid (∀ W,FR (· = mb) w W→MkS W0.heap.size mb l i3 W→SuP W0.heap.size mb l vs (combM vs 2 A B,i3) w (.returned (.tuple #[.string (⟨#[40]⟩ ++ sa ++ ⟨#[32,43,32]⟩ ++ sb ++ ⟨#[41]⟩), .int .i64 ((xa:Int)+xb)])) W):=hid fun W a b=>⟨by rw [hsa,hsb,hva,hvb,tx_add];rfl,a,b⟩
 have F3:Hid (∀ W,FR (· = mb) w W→MkS W0.heap.size mb l i3 W→SuP W0.heap.size mb l vs (combM vs 3 A B,i3) w (.returned (.tuple #[.string (⟨#[40]⟩ ++ sa ++ ⟨#[41,42,40]⟩ ++ sb ++ ⟨#[41]⟩), .int .i64 m])) W):=hid fun W a b=>⟨by rw [hsa,hsb,hmm,hva,hvb,tx_mul,←Int.natCast_mul];rfl,a,b⟩
 have F4:Hid (xa=xb→∀ W,FR (· = mb) w W→MkS W0.heap.size mb l i3 W→SuP W0.heap.size mb l vs (combM vs 4 A B,i3) w (.returned (.tuple #[.string (⟨#[105,102,32]⟩ ++ sa ++ ⟨#[32,61,61,32]⟩ ++ sb ++ ⟨#[32,116,104,101,110,32]⟩ ++ sa ++ ⟨#[32,101,108,115,101,32,49,32,101,110,100]⟩), .int .i64 (xa:Int)])) W):=hid fun he W a b=>by
  have hc:combM vs 4 A B = .iteA A B:=by unfold combM;rw [←hva,←hvb,he];simp
  have hv:(PE.iteA A B).val (vof vs)=xa:=by show (if A.val (vof vs)=B.val (vof vs) then A.val (vof vs) else 1)=xa;rw [←hva,←hvb,if_pos he]
  rw [hc]
  exact ⟨by rw [hv,hsa,hsb,tx_iteA],a,b⟩
 have F5:Hid (xa≠xb→∀ W,FR (· = mb) w W→MkS W0.heap.size mb l i3 W→SuP W0.heap.size mb l vs (combM vs 4 A B,i3) w (.returned (.tuple #[.string (⟨#[105,102,32]⟩ ++ sa ++ ⟨#[32,61,61,32]⟩ ++ sb ++ ⟨#[32,116,104,101,110,32,49,32,101,108,115,101,32]⟩ ++ sb ++ ⟨#[32,101,110,100]⟩), .int .i64 (xb:Int)])) W):=hid fun he W a b=>by
  have hc:combM vs 4 A B = .iteB A B:=by unfold combM;rw [←hva,←hvb,if_neg he];simp
  have hv:(PE.iteB A B).val (vof vs)=xb:=by show (if A.val (vof vs)=B.val (vof vs) then 1 else B.val (vof vs))=xb;rw [←hva,←hvb,if_neg he]
  rw [hc]
  exact ⟨by rw [hv,hsa,hsb,tx_iteB],a,b⟩
 have F6:Hid (∀ W,FR (· = mb) w W→MkS W0.heap.size mb l i3 W→SuP W0.heap.size mb l vs (combM vs 5 A B,i3) w (.returned (.tuple #[.string sa, .int .i64 (xa:Int)])) W):=hid fun W a b=>⟨by rw [hsa,hva];rfl,a,b⟩
 clear hva hvb hsa hsb hmm
 have q1:¬ (9223372036854775807 < 1+sa.size):=by omega
 have q2:¬ (9223372036854775807 < 1+sa.size+3):=by omega
 have q3:¬ (9223372036854775807 < 1+sa.size+3+sb.size):=by omega
 have q4:¬ (9223372036854775807 < 1+sa.size+3+sb.size+1):=by omega
 have r1:¬ (9223372036854775807 < 3+sa.size):=by omega
 have r2:¬ (9223372036854775807 < 3+sa.size+4):=by omega
 have r3:¬ (9223372036854775807 < 3+sa.size+4+sb.size):=by omega
 have r4:¬ (9223372036854775807 < 3+sa.size+4+sb.size+6):=by omega
 have r5:¬ (9223372036854775807 < 3+sa.size+4+sb.size+6+sa.size):=by omega
 have r6:¬ (9223372036854775807 < 3+sa.size+4+sb.size+6+sa.size+11):=by omega
 have t4:¬ (9223372036854775807 < 3+sa.size+4+sb.size+13):=by omega
 have t5:¬ (9223372036854775807 < 3+sa.size+4+sb.size+13+sb.size):=by omega
 have t6:¬ (9223372036854775807 < 3+sa.size+4+sb.size+13+sb.size+4):=by omega
 have hy0:(((y:Nat):Int) == 0)=false:=by rw [beq_eq_false_iff_ne];omega
 have hy1:(((y:Nat):Int) == 1)=false:=by rw [beq_eq_false_iff_ne];omega
 have HY5:=hid (show y=2∨y=3∨y=4∨y=5 by omega)
 obtain ⟨n,hn⟩:∃ n,n=vs.length:=⟨_,rfl⟩
 rw [←hn] at HA HB ⊢
 clear hn hI
 have HZ:=hid (show n=0∨(((n:Nat):Int) == 0)=false from by
  by_cases hn0:n=0
  · exact .inl hn0
  · right;rw [beq_eq_false_iff_ne];omega)
 rcases HZ.out with rfl | hz
 all_goals
  go_enter Tryz.func16,Tryz.ntmps16
  go_wp2_with fail
  refine H1.out.mono ?_
  rintro e w1 ⟨rfl,hf,hk⟩
  have HS1:=hid (HS.out.step hf hk)
  have HF1:=hid hf
  clear hf hk H1
  go_wp2_with fail
  refine (HA.out _ HS1.out).mono ?_
  rintro e w2 ⟨rfl,hf,hk⟩
  have HS2:=hid (HS1.out.step hf hk)
  have HF2:=hid (HF1.out.trans hf fun _ x => .inl x)
  clear hf hk HA
  go_wp2_with fail
  refine (HB.out _ HS2.out).mono ?_
  rintro e w3 ⟨rfl,hf,hk⟩
  have HS3:=hid (HS2.out.step hf hk)
  have HF3:=hid (HF2.out.trans hf fun _ x => .inl x)
  clear hf hk HB
  rcases HY5.out with rfl | rfl | rfl | rfl
  · clear hy0 hy1
    go_wp2
    go_ret2
    exact F2.out _ HF3.out HS3.out.ms
  · clear hy0 hy1
    go_wp2
    go_ret2
    exact F3.out _ HF3.out HS3.out.ms
  · clear hy0 hy1
    by_cases he:xa=xb
    · have HE:=hid he
      subst he
      go_wp2
      go_ret2
      exact F4.out (by first | rfl | trivial) _ HF3.out HS3.out.ms
    · have HE:=hid he
      have he2:(((xa:Nat):Int) == (xb:Nat))=false:=by rw [beq_eq_false_iff_ne];omega
      clear he
      go_wp2
      go_ret2
      exact F5.out HE.out _ HF3.out HS3.out.ms
  · clear hy0 hy1
    go_wp2
    go_ret2
    exact F6.out _ HF3.out HS3.out.ms
end
theorem tx_size (e:PE):(txB e).size=e.t.length:=by simp [txB,ByteArray.size]
section
variable {W0:World} {mb:Nat} {l:List Int} {vs:List Nat} {va:Option Addr} {vc i:Nat} {w:World}
theorem suI0 (hp:PT W0.heap.size W0) (hv:vs.length≤10) (hs:∀ x∈vs,x≤1000):SuI W0 mb l vs va vc 0 :=
 ⟨fun i w h=>sum0C hp hv h,fun i=>by rw [tx_size];have:=(sumM_0 l hv i).len;omega,fun i=>by have:=(val_0 l hv hs i).val;omega⟩
theorem sumM_lt (l:List Int) (vs:List Nat) (d i:Nat) (h:(oneM l i 6).1 < 2):sumM l vs (d+1) i=leafM l vs (oneM l i 6).1 (oneM l i 6).2:=by rw [sumM,if_pos h]
theorem sumM_ge (l:List Int) (vs:List Nat) (d i:Nat) (h:¬ (oneM l i 6).1 < 2):sumM l vs (d+1) i=(combM vs (oneM l i 6).1 (sumM l vs d (oneM l i 6).2).1 (sumM l vs d (sumM l vs d (oneM l i 6).2).2).1,(sumM l vs d (sumM l vs d (oneM l i 6).2).2).2):=by rw [sumM,if_neg h]
theorem suIS (hp:PT W0.heap.size W0) (hv:vs.length≤10) {d:Nat} (hd:d≤1) (hI:SuI W0 mb l vs va vc d) (h:SuW W0 mb l vs va i w):Calls Tryz.prog 16 #[ptr mb, .slice va vs.length vc, .int .i64 ((d:Int)+1)] w (SuP W0.heap.size mb l vs (sumM l vs (d+1) i) w):=by
 have hD:(((d:Int)+1) == 0)=false:=by rw [beq_eq_false_iff_ne];omega
 by_cases hlt:(oneM l i 6).1 < 2
 · rw [sumM_lt l vs d i hlt]
   exact sumLC hp hv h hD hlt
 · rw [sumM_ge l vs d i hlt]
   exact sumSC hI h hD (by omega) hd (by omega)
theorem suI1 (hp:PT W0.heap.size W0) (hv:vs.length≤10) (hs:∀ x∈vs,x≤1000):SuI W0 mb l vs va vc 1 :=
 ⟨fun i w h=>suIS (d:=0) hp hv (by decide) (suI0 hp hv hs) h,fun i=>by rw [tx_size];exact (sumM_1 l hv i).len,fun i=>(val_1 l hv hs i).val⟩
theorem sum2C (hp:PT W0.heap.size W0) (hv:vs.length≤10) (hs:∀ x∈vs,x≤1000) (h:SuW W0 mb l vs va i w):Calls Tryz.prog 16 #[ptr mb, .slice va vs.length vc, .int .i64 2] w (SuP W0.heap.size mb l vs (sumM l vs 2 i) w) :=
 suIS (d:=1) hp hv (by decide) (suI1 hp hv hs) h
end
theorem PE.val_congr {V V':Nat→Nat} {m:Nat} (h:∀ k,k < m→V k=V' k):∀ (e:PE),e.ok m→e.val V=e.val V'∧(e.sm V↔e.sm V')
 | ⟨.inl _,_⟩,_=>⟨rfl,Iff.rfl⟩
 | ⟨.inr (.inl k),_⟩,x=>⟨h k x.1,Iff.rfl⟩
 | ⟨.inr (.inr (.inl _)),s'⟩,x=>by
  obtain ⟨a1,a2⟩:=PE.val_congr h (s' false) x.1
  obtain ⟨b1,b2⟩:=PE.val_congr h (s' true) x.2
  simp only [PE.val,PE.sm,a1,b1,a2,b2,and_self,two,three]
 | ⟨.inr (.inr (.inr (.inl _))),s'⟩,x=>by
  obtain ⟨a1,a2⟩:=PE.val_congr h (s' false) x.1
  obtain ⟨b1,b2⟩:=PE.val_congr h (s' true) x.2
  simp only [PE.val,PE.sm,a1,b1,a2,b2,and_self,two,three]
 | ⟨.inr (.inr (.inr (.inr (.inl _)))),s'⟩,x=>by
  obtain ⟨a1,a2⟩:=PE.val_congr h (s' false) x.1
  obtain ⟨b1,b2⟩:=PE.val_congr h (s' true) x.2
  simp only [PE.val,PE.sm,a1,b1,a2,b2,and_self,two,three]
 | ⟨.inr (.inr (.inr (.inr (.inr _)))),s'⟩,x=>by
  obtain ⟨a1,a2⟩:=PE.val_congr h (s' false) x.1
  obtain ⟨b1,b2⟩:=PE.val_congr h (s' true) x.2
  simp only [PE.val,PE.sm,a1,b1,a2,b2,and_self,two,three]
def capM (vs:List Nat) (e:PE):PE:=if 1000 < e.val (vof vs)∨100 < e.t.length then .num 5 else e
structure MdT where
 es:List PE
 vs:List Nat
 i:Nat
def madeM (l:List Int):Nat→MdT
 | 0=>⟨[],[],0⟩
 | k+1=>⟨(madeM l k).es ++ [capM (madeM l k).vs (sumM l (madeM l k).vs 2 (madeM l k).i).1],(madeM l k).vs ++ [(capM (madeM l k).vs (sumM l (madeM l k).vs 2 (madeM l k).i).1).val (vof (madeM l k).vs)],(sumM l (madeM l k).vs 2 (madeM l k).i).2⟩
def E5 (l:List Int) (k:Nat):PE:=capM (madeM l k).vs (sumM l (madeM l k).vs 2 (madeM l k).i).1
def V5 (l:List Int) (k:Nat):Nat:=(E5 l k).val (vof (madeM l k).vs)
theorem madeM_vs (l:List Int):∀ k,(madeM l k).vs=(List.range k).map (V5 l)
 | 0=>rfl
 | k+1=>by rw [List.range_succ,List.map_append,←madeM_vs l k];rfl
theorem madeM_len (l:List Int) (k:Nat):(madeM l k).vs.length=k:=by rw [madeM_vs];simp
theorem vof_made (l:List Int) {k j:Nat} (h:j < k):vof (madeM l k).vs j=V5 l j:=by
 rw [madeM_vs]
 unfold vof
 rw [List.getD_eq_getElem?_getD]
 simp [h]
theorem E5_ok (l:List Int) (k:Nat) (hk:k < 10) (hs:∀ x∈(madeM l k).vs,x≤1000):(E5 l k).ok k∧(E5 l k).fu≤46∧(E5 l k).dep≤3∧(E5 l k).t.length≤100∧(E5 l k).sm (vof (madeM l k).vs)∧V5 l k≤1000:=by
 have hlen:=madeM_len l k
 obtain ⟨h1,h2,h3,h4⟩:=sumM_2 l (vs:=(madeM l k).vs) (by omega) (madeM l k).i
 obtain ⟨h5,h6⟩:=val_2 l (vs:=(madeM l k).vs) (by omega) hs (madeM l k).i
 rw [hlen] at h1
 unfold V5 E5 capM
 split
 · exact ⟨by show 5 < 10;decide,by decide,by decide,by decide,trivial,by show 5≤1000;decide⟩
 · exact ⟨h1,h2,h3,by omega,h6 (by omega),by omega⟩
theorem V5_le (l:List Int):∀ k,k < 10→V5 l k≤1000:=fun k=>by
 induction k using Nat.strongRecOn with
 | _ k ih =>
  intro hk
  refine (E5_ok l k hk fun x hx => ?_).2.2.2.2.2
  rw [madeM_vs] at hx
  obtain ⟨j,hj,rfl⟩:=List.mem_map.1 hx
  have:=List.mem_range.1 hj
  exact ih j this (by omega)
theorem made_small (l:List Int) {k:Nat} (hk:k≤10):∀ x∈(madeM l k).vs,x≤1000:=fun x hx=>by
 rw [madeM_vs] at hx
 obtain ⟨j,hj,rfl⟩:=List.mem_map.1 hx
 have:=List.mem_range.1 hj
 exact V5_le l j (by omega)
def text5 (l:List Int) (i:Nat):ByteArray:=⟨(fileT (List.range i) (2 * i) (E5 l (2 * i)) (E5 l (2 * i+1))).toArray⟩
theorem usesT_len:∀ (us:List Nat),(usesT us).length=7 * us.length
 | []=>rfl
 | u :: us=>by simp only [usesT,useT,flL,List.length_append,List.length_cons,List.length_nil,usesT_len us];omega
theorem lineT_len (k:Nat) (e:PE):(lineT k e).length=19+e.t.length:=by
 simp only [lineT,nmL,List.length_append,List.length_cons,List.length_nil];omega
theorem text5_size (l:List Int) {i:Nat} (hi:i < 5):(text5 l i).size≤300:=by
 have h1:=(E5_ok l (2 * i) (by omega) (made_small l (by omega))).2.2.2.1
 have h2:=(E5_ok l (2 * i+1) (by omega) (made_small l (by omega))).2.2.2.1
 have:(text5 l i).size=(fileT (List.range i) (2 * i) (E5 l (2 * i)) (E5 l (2 * i+1))).length:=by simp [text5,ByteArray.size]
 rw [this]
 unfold fileT
 simp only [List.length_append,usesT_len,lineT_len,List.length_range]
 omega
theorem made_of {F:Txt} {l:List Int} (h:∀ i,i < 5→F (flB i)=some (text5 l i)):Made F (E5 l) (V5 l):=by
 refine ⟨h,fun k hk=>(E5_ok l k hk (made_small l (by omega))).1,fun k hk => ?_,fun k hk => ?_⟩
 · have:=E5_ok l k hk (made_small l (by omega))
   exact ⟨by omega,by omega⟩
 · have h5:=E5_ok l k hk (made_small l (by omega))
   have hc:=PE.val_congr (V:=vof (madeM l k).vs) (V':=V5 l) (m:=k) (fun j hj=>vof_made l hj) (E5 l k) h5.1
   exact ⟨hc.1,hc.2.1 h5.2.2.2.2.1,h5.2.2.2.2.2⟩
structure Txs (W:World) (a:Option Addr) (Xs:List ByteArray):Prop where
 ex:∃ b o:Nat,(0 < Xs.length→a=some ⟨b,o,none⟩∧b < W.heap.size)∧∀ (j:Nat) X,Xs[j]? = some X→W.cell? ⟨b,o+j,none⟩=some (.string X)
 sz:∀ X∈Xs,X.size≤maxLen
 ln:Xs.length≤maxLen
def fileN (i:Nat):ByteArray:=⟨#[UInt8.ofNat (97+i)]⟩
theorem fileN_inj {i j:Nat} (hi:i < 6) (hj:j < 6) (h:fileN i=fileN j):i=j:=by
 have key:∀ a:Fin 6,∀ b:Fin 6,fileN a=fileN b→a=b:=by decide
 have:=key ⟨i,hi⟩ ⟨j,hj⟩ h
 exact Fin.mk.inj this
theorem fileN_ok {i:Nat} (hi:i < 6):fileB (fileN i)=true:=by
 have key:∀ a:Fin 6,fileB (fileN a)=true:=by
  intro a
  match a with
  | 0=>show fileB (fileN 0)=true;kernel_rfl
  | 1=>show fileB (fileN 1)=true;kernel_rfl
  | 2=>show fileB (fileN 2)=true;kernel_rfl
  | 3=>show fileB (fileN 3)=true;kernel_rfl
  | 4=>show fileB (fileN 4)=true;kernel_rfl
  | 5=>show fileB (fileN 5)=true;kernel_rfl
 exact key ⟨i,hi⟩
theorem fileC (i:Nat) (hi:i < 6) (w:World):Calls Tryz.prog 10 #[.int .i64 (i:Nat)] w fun e w'=>e = .returned (.string (fileN i))∧w'=w:=by
 have h6:i=0∨i=1∨i=2∨i=3∨i=4∨i=5:=by omega
 rcases h6 with rfl | rfl | rfl | rfl | rfl | rfl
 all_goals
  go_enter Tryz.func10,Tryz.ntmps10
  go_wp2
  go_ret
  exact ⟨rfl,rfl⟩
theorem rev_setF (st:St V) (f t:ByteArray):(st.setF f t).rev=st.rev+1:=rfl
def EngAt (W0:World):Prop:=∀ (bs:Nat) (fm:Value) (n:Nat),SetC W0 (engM wp (.s cyc_) n) bs fm
theorem known_ref:refX 7 zF qN=0:=by kernel_rfl
theorem knownC {W1 w:World} {bs:Nat} {fm:Value} {L:Lay} (hp:PT W1.heap.size W1) (he:EngAt W1) (hE:ENG (({ stNew with began:=[] }:St V).setF zF knownT0) L none bs fm w) (hF:FSt W1 ([] ++ [(zF,knownT0)]) (({ stNew with began:=[] }:St V).setF zF knownT0).files L fm w) :
 Calls Tryz.prog 9 #[ptr bs, .int .i64 7, .string zF, .string qN] w fun e w'=>e = .returned (.tuple #[.string ⟨#[49,48]⟩, .int .i64 0])∧Below W1.heap.size W1 w':=by
 obtain ⟨v,hv⟩:=vals_exist knownF
 have hfile:(({ stNew with began:=[] }:St V).setF zF knownT0).files=knownF:=rfl
 have hw:Well W1 bs fm knownF v 0 (({ stNew with began:=[] }:St V).setF zF knownT0) w:=(raw_new.beg.setF zF knownT0).well (v:=v) hE hF
 have:qK 7 zF qN=⟨7,zF,qN⟩:=rfl
 refine (askC (t:=⟨#[49,48]⟩) ⟨hp,he,known_ok,hv⟩ (by decide) hw known_ref (by decide) (by rw [this,known_ans hv])).mono ?_
 rintro e w' ⟨rfl,st',h1⟩
 exact ⟨rfl,h1.low⟩
theorem infoStrK:(Tryz.prog.info? 9).map (fun i=>(i.zero,i.size,i.bytes))=some (some (.string nob),1,16):=by kernel_rfl
structure MdW (W:World) (l:List Int) (mb f k i:Nat) (tv vv:Value) (wr:World):Prop where
 ms:MkS W.heap.size mb l i wr
 lo:Below W.heap.size W wr
 tx:wr.ownsRow W.heap.size 9 1 tv f ((List.range f).map fun j => .string (text5 l j))
 vl:wr.ownsRow W.heap.size 3 1 vv k ((List.range k).map fun j => .int .i64 (V5 l j:Nat))
 ap:∀ b,tv.ownBlock=some b→vv.ownBlock≠some b
 tm:tv.ownBlock≠some mb
 vm:vv.ownBlock≠some mb
section
variable {W:World} {l:List Int} {mb f k i:Nat} {tv vv:Value} {wr w':World}
theorem MdW.fr (h:MdW W l mb f k i tv vv wr) {i':Nat} (hf:FR (· = mb) wr w') (hk:MkS W.heap.size mb l i' w'):MdW W l mb f k i' tv vv w':=by
 have hlo:=h.lo
 have hnm:=h.ms.nm
 refine ⟨hk,⟨hf.os.trans hlo.os,hf.tape.trans hlo.tape,hf.output.trans hlo.output,Nat.le_trans hlo.size hf.size,fun b hb=>(hf.block b (Nat.lt_of_lt_of_le hb hlo.size) (by omega)).trans (hlo.block b hb)⟩,?_,?_,h.ap,h.tm,h.vm⟩
 · exact own_far h.tx fun g hg=>hf.block g (h.tx.lt g hg).2 fun e=>h.tm (e ▸ hg)
 · exact own_far h.vl fun g hg=>hf.block g (h.vl.lt g hg).2 fun e=>h.vm (e ▸ hg)
theorem MdW.below (h:MdW W l mb f k i tv vv wr) (hb:Below wr.heap.size wr w'):MdW W l mb f k i tv vv w':=h.fr (FR.of_below hb) (h.ms.below hb)
theorem MdW.su (h:MdW W l mb f k i tv vv wr) {a:Option Addr} {c:Nat} (hv:vv = .slice a k c):SuW W mb l (madeM l k).vs a i wr:=by
 subst hv
 refine ⟨h.ms,h.lo,?_⟩
 rw [madeM_len,madeM_vs]
 by_cases hk:k=0
 · subst hk
   exact ⟨0,fun x=>absurd x (by omega),fun j x hx=>by simp at hx⟩
 · obtain ⟨g,hg⟩:∃ g,a=some ⟨g,0,none⟩:=by
    obtain ⟨_,⟨_,h0⟩ | ⟨g,c',cur,h1,_⟩⟩:=h.vl
    · exact absurd h0 hk
    · injection h1 with h1 _ _
      exact ⟨g,h1⟩
   subst hg
   refine ⟨g,fun _=>⟨rfl,fun e=>h.vm (e ▸ rfl),(h.vl.lt g rfl).2⟩,fun j x hx => ?_⟩
   have hj:j < k:=by have:=(List.getElem?_eq_some_iff.1 hx).1;simpa using this
   rw [h.vl.cellAt j (by omega)]
   simp [hj] at hx ⊢
   rw [hx]
theorem MdW.pushV (h:MdW W l mb f k i tv vv wr) {v':Value} (hown:w'.ownsRow W.heap.size 3 1 v' (k+1) (((List.range k).map fun j=>Value.int .i64 (V5 l j:Nat)) ++ [.int .i64 (V5 l k:Nat)])) (hg:wr.grownBy w' vv.ownBlock) (hloc:v'.ownBlock=vv.ownBlock∨v'.ownBlock=some wr.heap.size):MdW W l mb f (k+1) i tv v' w':=by
 have hF:FR (fun b=>vv.ownBlock=some b) wr w':=(FR.refl _ wr).grown hg fun g e => .inl e
 have hlo:=h.lo
 have hmb:mb < wr.heap.size:=by obtain ⟨_,_,hm,_⟩:=h.ms.ex;exact heap_lt hm
 refine ⟨h.ms.fr hF (fun b hb e => ?_) h.vm,hlo.grown hg hlo.size fun q hq=>(h.vl.lt q hq).1,?_,?_,fun b hb e => ?_,h.tm,fun e => ?_⟩
 · have:=(h.vl.lt b e).1;omega
 · exact own_far h.tx fun g hgt=>hF.block g (h.tx.lt g hgt).2 (h.ap g hgt)
 · rw [List.range_succ,List.map_append];exact hown
 · rcases hloc with e2 | e2
   · exact h.ap b hb (e2 ▸ e)
   · rw [e2] at e
     have:=(h.tx.lt b hb).2
     injection e with e
     omega
 · rcases hloc with e2 | e2
   · exact h.vm (e2 ▸ e)
   · rw [e2] at e
     injection e with e
     omega
theorem MdW.pushT (h:MdW W l mb f k i tv vv wr) {v':Value} (hown:w'.ownsRow W.heap.size 9 1 v' (f+1) (((List.range f).map fun j=>Value.string (text5 l j)) ++ [.string (text5 l f)])) (hg:wr.grownBy w' tv.ownBlock) (hloc:v'.ownBlock=tv.ownBlock∨v'.ownBlock=some wr.heap.size):MdW W l mb (f+1) k i v' vv w':=by
 have hF:FR (fun b=>tv.ownBlock=some b) wr w':=(FR.refl _ wr).grown hg fun g e => .inl e
 have hlo:=h.lo
 have hmb:mb < wr.heap.size:=by obtain ⟨_,_,hm,_⟩:=h.ms.ex;exact heap_lt hm
 refine ⟨h.ms.fr hF (fun b hb e => ?_) h.tm,hlo.grown hg hlo.size fun q hq=>(h.tx.lt q hq).1,?_,?_,fun b hb e => ?_,fun e => ?_,h.vm⟩
 · have:=(h.tx.lt b e).1;omega
 · rw [List.range_succ,List.map_append];exact hown
 · exact own_far h.vl fun g hgt=>hF.block g (h.vl.lt g hgt).2 fun e=>h.ap g e hgt
 · rcases hloc with e2 | e2
   · exact h.ap b (e2 ▸ hb) e
   · rw [e2] at hb
     have:=(h.vl.lt b e).2
     injection hb with hb
     omega
 · rcases hloc with e2 | e2
   · exact h.tm (e2 ▸ e)
   · rw [e2] at e
     injection e with e
     omega
end
def useB (u:Nat):ByteArray:=⟨(usesT (List.range u)).toArray⟩
def tB (l:List Int) (f:Nat):Nat→ByteArray
 | 0=>useB f
 | j+1=>tB l f j ++ ⟨(lineT (2 * f+j) (E5 l (2 * f+j))).toArray⟩
theorem usesT_app:∀ (us vs:List Nat),usesT (us ++ vs)=usesT us ++ usesT vs
 | [],_=>rfl
 | u :: us,vs=>by simp only [List.cons_append,usesT,usesT_app us vs,List.append_assoc]
theorem useB_succ (u:Nat):useB u ++ ⟨#[117,115,101,32]⟩ ++ fileN u ++ ⟨#[59,10]⟩=useB (u+1):=by
 apply ByteArray.ext;apply Array.toList_inj.1
 simp [useB,List.range_succ,usesT_app,usesT,useT,flL,fileN]
theorem line_eq (t:ByteArray) (k:Nat) (e:PE):t ++ ⟨#[112,117,98,32,108,101,116,32]⟩ ++ nmB k ++ ⟨#[58,105,110,116,32,61,32]⟩ ++ txB e ++ ⟨#[59,10]⟩=t ++ ⟨(lineT k e).toArray⟩:=by
 apply ByteArray.ext;apply Array.toList_inj.1
 simp [lineT,nmB,txB]
theorem tB_two (l:List Int) (f:Nat):tB l f 2=text5 l f:=by
 apply ByteArray.ext;apply Array.toList_inj.1
 simp [tB,useB,text5,fileT]
theorem useB_size (u:Nat):(useB u).size=7 * u:=by
 have:(useB u).size=(usesT (List.range u)).length:=by simp [useB,ByteArray.size]
 rw [this,usesT_len,List.length_range]
end Go.Proofs.YthibodlojlkppaaGreatDoor
